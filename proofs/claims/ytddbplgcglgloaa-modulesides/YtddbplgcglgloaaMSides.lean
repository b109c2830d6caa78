/- The walk of ModuleSides. -/
import Derived.Test.YtddbplgcglgloaaMApp
namespace Go.Proofs.Ytddbplgcglgloaa
open Go.RowKit Ex
open Go.Sort (grow)
set_option linter.unusedSimpArgs false
set_option linter.unusedVariables false

def cV (y : C2) : Nat → Value := fun i => y.cells.getD i undef
theorem cV_new (w : World) (y : C2) : (w.alloc (.cells y.cells 31)).rowIs w.heap.size 31 4 (cV y) :=
  World.rowIs_alloc w _ 31 _ (fun i hi => by
    have h : i < y.cells.size := by simpa [C2.cells] using hi
    unfold cV
    rw [Array.getElem?_eq_getElem h]
    simp [Array.getD, h])
theorem infoS : (Try.prog.info? 40).map (fun i => (i.zero, i.size, i.bytes)) = some (some (.agg #[.int .i64 0, .bool false, .int .i64 0, .int .i64 0, .slice none 0 0]), 5, 56) := by kernel_rfl
theorem sets_cells {V : World} {B : Nat} {s : SL} {l : List ST} (h : Rows SetAt 5 V B s l) : ∃ ks, Chunk 5 (SetC V B) ks l ∧ ∀ ad, s.A = some ad → ∀ (j : Nat) u, ks.flatten[j]? = some u → V.cell? (ad.add j) = some u := by
  obtain ⟨A, n, c⟩ := s
  by_cases hn : 0 < n
  · obtain ⟨b, off, e, hb, _⟩ := h.2.2.2.1 hn
    simp only at e
    subst e
    obtain ⟨ks, h1, h2⟩ := rows_cells h hn (fun o a ha => set_cells o a ha)
    refine ⟨ks, h1, fun ad e j u hu => ?_⟩
    simp only at e
    injection e with e
    subst e
    have := h2 j u hu
    by_cases hj : j = 0
    · subst hj; simpa [Addr.add] using this
    · simpa [Addr.add, hj] using this
  · have hl : l = [] := List.eq_nil_of_length_eq_zero (by have := h.1; simp only at this; omega)
    subst hl
    exact ⟨[], Chunk.nil, fun ad _ j u hu => by simp at hu⟩

theorem more_row {V w5 w6 : World} {y : C2} {O : Option Addr} {tn cap : Nat} {xs : List Value} {o : Obj} (h5 : ((V.alloc (.cells y.cells 31)).alloc (.cells #[] 40)).grownBy w5 (some (V.heap.size + 1))) (hown : w5.ownsRow (V.heap.size + 1) 40 5 (.slice O tn cap) tn xs) (h6 : (w5.alloc o).grownBy w6 (Value.slice O tn cap).ownBlock) :
    w6.rowIs V.heap.size 31 4 (cV y) ∧ Below V.heap.size V w6 ∧ V.heap.size + 2 ≤ w5.heap.size ∧ w5.heap.size + 1 ≤ w6.heap.size := by
  have hz5 : V.heap.size + 2 ≤ w5.heap.size := by have := h5.size; simp at this; omega
  have hz6 : w5.heap.size + 1 ≤ w6.heap.size := by have := h6.size; simp at this; omega
  have r0 : ((V.alloc (.cells y.cells 31)).alloc (.cells #[] 40)).rowIs V.heap.size 31 4 (cV y) := (cV_new V y).alloc _
  have r5 := r0.of_block (h5.block V.heap.size (by simp; omega) (fun e => by injection e with e; omega))
  have r6 := (r5.alloc o).of_block (h6.block V.heap.size (by simp; omega) (fun e => by have := (hown.lt _ e.symm).1; omega))
  have hb0 : Below V.heap.size V ((V.alloc (.cells y.cells 31)).alloc (.cells #[] 40)) := ((Below.refl _ _).alloc (Nat.le_refl _) _).alloc (by simp) _
  have hb5 := hb0.grown h5 (by simp; omega) (fun j hj => by injection hj with hj; omega)
  have hb6 := (hb5.alloc (by omega) o).grown h6 (by simp; omega) (fun j hj => by have := (hown.lt j hj).1; omega)
  exact ⟨r6, hb6, hz5, hz6⟩

def wantE (l : List Dom.V) (env : Bool) (q : Int) (ss : List ST) : Int := if envAt l q ≠ env ∨ q ∈ ss.map ST.var then 3 else 0
theorem want_no {l : List Dom.V} {env : Bool} {q : Int} (h : envAt l q = env) : wantE l env q [] = 0 := by unfold wantE; simp [h]
theorem want_yes {l : List Dom.V} {env : Bool} {q : Int} {ss : List ST} (h : ¬ envAt l q = env) : wantE l env q ss = 3 := by unfold wantE; simp [h]
theorem want_hit {l : List Dom.V} {env : Bool} {q : Int} {ss : List ST} {k : Nat} {s : ST} (hk : ss[k]? = some s) (h : s.var = q) : wantE l env q (ss.take (k + 1)) = 3 := by
  unfold wantE
  rw [if_pos]
  right
  obtain ⟨hl, e⟩ := List.getElem?_eq_some_iff.1 hk
  refine List.mem_map.2 ⟨s, ?_, h⟩
  rw [List.take_add_one, hk]
  simp
theorem want_miss {l : List Dom.V} {env : Bool} {q : Int} {ss : List ST} {k : Nat} {s : ST} (hk : ss[k]? = some s) (h : ¬ s.var = q) : wantE l env q (ss.take (k + 1)) = wantE l env q (ss.take k) := by
  unfold wantE
  rw [List.take_add_one, hk]
  have h' : ¬ q = s.var := fun e => h e.symm
  simp [h']
theorem more_rc {V w6 : World} {B g tn cap : Nat} {y : C2} {c : CT} {ks : List (List Value)} {q : Int} (hrc : RC V B y c) (hch : Chunk 5 (SetC V B) ks c.sets) (hB : B ≤ V.heap.size)
    (hown : w6.ownsRow (V.heap.size + 1) 40 5 (.slice (some ⟨g, 0, none⟩) (tn + 1) cap) (tn + 1) (ks.flatten ++ [.int .i64 q, .bool true, .int .i64 0, .int .i64 0, .slice none 0 0])) (hb : Below V.heap.size V (w6.setCell ⟨V.heap.size, 3, none⟩ (.slice (some ⟨g, 0, none⟩) (tn + 1) cap))) :
    RC (w6.setCell ⟨V.heap.size, 3, none⟩ (.slice (some ⟨g, 0, none⟩) (tn + 1) cap)) (w6.setCell ⟨V.heap.size, 3, none⟩ (.slice (some ⟨g, 0, none⟩) (tn + 1) cap)).heap.size ⟨y.guard, ⟨some ⟨g, 0, none⟩, tn + 1, cap⟩⟩ { c with sets := c.sets ++ [⟨q, true, .mk 0 0 []⟩] } := by
  have hz := hb.size
  have h7 := ownsRow_setCell_below hown (a := ⟨V.heap.size, 3, none⟩) (by show V.heap.size < V.heap.size + 1; omega) (.slice (some ⟨g, 0, none⟩) (tn + 1) cap)
  generalize w6.setCell ⟨V.heap.size, 3, none⟩ (.slice (some ⟨g, 0, none⟩) (tn + 1) cap) = W7 at *
  rw [← flat_snoc] at h7
  have hc2 := Chunk.snoc (a := (⟨q, true, .mk 0 0 []⟩ : ST)) hch (ch := [.int .i64 q, .bool true, .int .i64 0, .int .i64 0, .slice none 0 0]) rfl (by simp [Value.oneCell']) ⟨⟨0, 0, none, 0, 0⟩, rfl, leaf_ex _ _ _ _⟩
  have hc3 := hc2.turn (C2 := SetC W7 W7.heap.size) (fun ch a h => h.up (hb.mono hB) (by omega))
  exact ⟨(hrc.1.below (hb.mono hB)).more (by omega), own_rows (by omega) h7 hc3 (fun b o ch a _ h hcc => set_back h hcc)⟩

theorem g_world (u : World) (tA : Option Addr) (tn tc : Nat) (q : Int) (B : Nat) (c : CT) (hB : B ≤ u.heap.size) (hr : Rows SetAt 5 u B ⟨tA, tn, tc⟩ c.sets) :
    ((((u.alloc (.cells #[.int .i64 8, .int .i64 0, .slice (some ⟨u.heap.size + 1 + 1, 0, none⟩) 2 2, .slice tA tn tc] 31)).alloc (.cells #[.int .i64 4, .int .i64 q, .slice none 0 0, .int .i64 4, .int .i64 q, .slice none 0 0] 25)).alloc (.cells #[.int .i64 2, .int .i64 0, .slice none 0 0, .int .i64 9, .int .i64 0, .slice (some ⟨u.heap.size + 1, 0, none⟩) 2 2] 25)).heap[u.heap.size]? = some (.cells #[.int .i64 8, .int .i64 0, .slice (some ⟨u.heap.size + 1 + 1, 0, none⟩) 2 2, .slice tA tn tc] 31 (0, 0))) ∧ Below u.heap.size u (((u.alloc (.cells #[.int .i64 8, .int .i64 0, .slice (some ⟨u.heap.size + 1 + 1, 0, none⟩) 2 2, .slice tA tn tc] 31)).alloc (.cells #[.int .i64 4, .int .i64 q, .slice none 0 0, .int .i64 4, .int .i64 q, .slice none 0 0] 25)).alloc (.cells #[.int .i64 2, .int .i64 0, .slice none 0 0, .int .i64 9, .int .i64 0, .slice (some ⟨u.heap.size + 1, 0, none⟩) 2 2] 25)) ∧ u.heap.size + 3 ≤ (((u.alloc (.cells #[.int .i64 8, .int .i64 0, .slice (some ⟨u.heap.size + 1 + 1, 0, none⟩) 2 2, .slice tA tn tc] 31)).alloc (.cells #[.int .i64 4, .int .i64 q, .slice none 0 0, .int .i64 4, .int .i64 q, .slice none 0 0] 25)).alloc (.cells #[.int .i64 2, .int .i64 0, .slice none 0 0, .int .i64 9, .int .i64 0, .slice (some ⟨u.heap.size + 1, 0, none⟩) 2 2] 25)).heap.size ∧
    RC (((u.alloc (.cells #[.int .i64 8, .int .i64 0, .slice (some ⟨u.heap.size + 1 + 1, 0, none⟩) 2 2, .slice tA tn tc] 31)).alloc (.cells #[.int .i64 4, .int .i64 q, .slice none 0 0, .int .i64 4, .int .i64 q, .slice none 0 0] 25)).alloc (.cells #[.int .i64 2, .int .i64 0, .slice none 0 0, .int .i64 9, .int .i64 0, .slice (some ⟨u.heap.size + 1, 0, none⟩) 2 2] 25)) (u.heap.size + 3) ⟨⟨8, 0, some ⟨u.heap.size + 1 + 1, 0, none⟩, 2, 2⟩, ⟨tA, tn, tc⟩⟩ { c with guard := gT q } := by
  have b0 : (((u.alloc (.cells #[.int .i64 8, .int .i64 0, .slice (some ⟨u.heap.size + 1 + 1, 0, none⟩) 2 2, .slice tA tn tc] 31)).alloc (.cells #[.int .i64 4, .int .i64 q, .slice none 0 0, .int .i64 4, .int .i64 q, .slice none 0 0] 25)).alloc (.cells #[.int .i64 2, .int .i64 0, .slice none 0 0, .int .i64 9, .int .i64 0, .slice (some ⟨u.heap.size + 1, 0, none⟩) 2 2] 25)).heap[u.heap.size]? = some (.cells #[.int .i64 8, .int .i64 0, .slice (some ⟨u.heap.size + 1 + 1, 0, none⟩) 2 2, .slice tA tn tc] 31 (0, 0)) := up_at (up_at (new_at rfl))
  have b1 : (((u.alloc (.cells #[.int .i64 8, .int .i64 0, .slice (some ⟨u.heap.size + 1 + 1, 0, none⟩) 2 2, .slice tA tn tc] 31)).alloc (.cells #[.int .i64 4, .int .i64 q, .slice none 0 0, .int .i64 4, .int .i64 q, .slice none 0 0] 25)).alloc (.cells #[.int .i64 2, .int .i64 0, .slice none 0 0, .int .i64 9, .int .i64 0, .slice (some ⟨u.heap.size + 1, 0, none⟩) 2 2] 25)).heap[u.heap.size + 1]? = some (.cells #[.int .i64 4, .int .i64 q, .slice none 0 0, .int .i64 4, .int .i64 q, .slice none 0 0] 25 (0, 0)) := up_at (new_at (by simp))
  have b2 : (((u.alloc (.cells #[.int .i64 8, .int .i64 0, .slice (some ⟨u.heap.size + 1 + 1, 0, none⟩) 2 2, .slice tA tn tc] 31)).alloc (.cells #[.int .i64 4, .int .i64 q, .slice none 0 0, .int .i64 4, .int .i64 q, .slice none 0 0] 25)).alloc (.cells #[.int .i64 2, .int .i64 0, .slice none 0 0, .int .i64 9, .int .i64 0, .slice (some ⟨u.heap.size + 1, 0, none⟩) 2 2] 25)).heap[u.heap.size + 1 + 1]? = some (.cells #[.int .i64 2, .int .i64 0, .slice none 0 0, .int .i64 9, .int .i64 0, .slice (some ⟨u.heap.size + 1, 0, none⟩) 2 2] 25 (0, 0)) := new_at (by simp)
  have hb : Below u.heap.size u (((u.alloc (.cells #[.int .i64 8, .int .i64 0, .slice (some ⟨u.heap.size + 1 + 1, 0, none⟩) 2 2, .slice tA tn tc] 31)).alloc (.cells #[.int .i64 4, .int .i64 q, .slice none 0 0, .int .i64 4, .int .i64 q, .slice none 0 0] 25)).alloc (.cells #[.int .i64 2, .int .i64 0, .slice none 0 0, .int .i64 9, .int .i64 0, .slice (some ⟨u.heap.size + 1, 0, none⟩) 2 2] 25)) := (((Below.refl _ _).alloc (Nat.le_refl _) _).alloc (by simp) _).alloc (by simp; omega) _
  have hz : u.heap.size + 3 ≤ (((u.alloc (.cells #[.int .i64 8, .int .i64 0, .slice (some ⟨u.heap.size + 1 + 1, 0, none⟩) 2 2, .slice tA tn tc] 31)).alloc (.cells #[.int .i64 4, .int .i64 q, .slice none 0 0, .int .i64 4, .int .i64 q, .slice none 0 0] 25)).alloc (.cells #[.int .i64 2, .int .i64 0, .slice none 0 0, .int .i64 9, .int .i64 0, .slice (some ⟨u.heap.size + 1, 0, none⟩) 2 2] 25)).heap.size := by simp
  generalize ((u.alloc (.cells #[.int .i64 8, .int .i64 0, .slice (some ⟨u.heap.size + 1 + 1, 0, none⟩) 2 2, .slice tA tn tc] 31)).alloc (.cells #[.int .i64 4, .int .i64 q, .slice none 0 0, .int .i64 4, .int .i64 q, .slice none 0 0] 25)).alloc (.cells #[.int .i64 2, .int .i64 0, .slice none 0 0, .int .i64 9, .int .i64 0, .slice (some ⟨u.heap.size + 1, 0, none⟩) 2 2] 25) = X at *
  refine ⟨b0, hb, hz, ⟨3, ?_⟩, (hr.keep (w' := X) (fun b o y h1 hy => SetAt.keep h1 hy (fun p hp => (hb.mono hB).cell hp))).more (by omega) (fun b o x hx => SetAt.more hx (by omega))⟩
  have hin : RE X (u.heap.size + 3) 2 9 0 (some ⟨u.heap.size + 1, 0, none⟩) 2 2 (.mk 9 0 [.mk 4 q [], .mk 4 q []]) := by
    refine RE.node rfl (by omega) (by unfold maxLen; omega) (by omega) (fun k t ht => ?_)
    match k, ht with
    | 0, ht => simp at ht; subst ht; exact ⟨4, q, none, 0, 0, ⟨blk b1 (i := 0) rfl, blk b1 (i := 1) rfl, blk b1 (i := 2) rfl⟩, RE.leaf _ _ _ _ _⟩
    | 1, ht => simp at ht; subst ht; exact ⟨4, q, none, 0, 0, ⟨blk b1 (i := 3) rfl, blk b1 (i := 4) rfl, blk b1 (i := 5) rfl⟩, RE.leaf _ _ _ _ _⟩
    | k + 2, ht => simp at ht
  show RE X (u.heap.size + 3) 3 8 0 (some ⟨u.heap.size + 1 + 1, 0, none⟩) 2 2 (.mk 8 0 [.mk 2 0 [], .mk 9 0 [.mk 4 q [], .mk 4 q []]])
  refine RE.node rfl (by omega) (by unfold maxLen; omega) (by omega) (fun k t ht => ?_)
  match k, ht with
  | 0, ht => simp at ht; subst ht; exact ⟨2, 0, none, 0, 0, ⟨blk b2 (i := 0) rfl, blk b2 (i := 1) rfl, blk b2 (i := 2) rfl⟩, RE.leaf _ _ _ _ _⟩
  | 1, ht => simp at ht; subst ht; exact ⟨9, 0, _, 2, 2, ⟨blk b2 (i := 3) rfl, blk b2 (i := 4) rfl, blk b2 (i := 5) rfl⟩, hin⟩
  | k + 2, ht => simp at ht

set_option maxRecDepth 100000 in
set_option maxHeartbeats 8000000 in
theorem msides_any (B : Nat) (x : M8) (m : MT) (y : C2) (c : CT) (env : Bool) (v : Int) (w : World) (hB : B ≤ w.heap.size) (hrm : RM w B x m) (hrc : RC w B y c) :
    Calls Try.prog 4 #[.agg x.cells, .agg y.cells, .bool env, .int .i64 v] w fun e w' => e = .returned (.bool true) ∧ Below w.heap.size w w' := by
  obtain ⟨b0, b1, b2, b3, hz0, hbx⟩ := pre_blocks w x.cells y.cells (dM (w.heap.size + 2)).cells
  have Hrm := hide (hrm.below (hbx.mono hB))
  have Hrc := hide (hrc.below (hbx.mono hB))
  have Hrd := hide (d_rm b2 (Hrc.out) (by omega))
  have Hb0 := hide b0; have Hb1 := hide b1; have Hb3 := hide b3
  have Hbx := hide hbx
  clear hrm hrc hbx b0 b1 b2 b3
  obtain ⟨⟨vA, vn, vc⟩, ⟨io, im, iA, il, ic⟩, ⟨jo, jm, jA, jl, jc⟩, ⟨eA, en, ec⟩, ⟨sA, sn, sc⟩, ⟨aA, an, ac⟩, ⟨nA, nn, nc⟩, ⟨pA, pn, pc⟩⟩ := x
  obtain ⟨⟨co, cn, cA, cl, cc⟩, ⟨tA, tn, tc⟩⟩ := y
  simp only [M8.cells, C2.cells, SL.v, dM] at *
  obtain ⟨f0, f1, f2, f3⟩ : _ ∧ _ ∧ _ ∧ _ := ⟨blk Hb1.out (i := 0) rfl, blk Hb1.out (i := 1) rfl, blk Hb1.out (i := 2) rfl, blk Hb1.out (i := 3) rfl⟩
  clear f0 f1 f2 f3
  have y0 := (box4 (w.alloc (.cells #[.slice vA vn vc, .int .i64 io, .int .i64 im, .slice iA il ic, .int .i64 jo, .int .i64 jm, .slice jA jl jc, .slice eA en ec, .slice sA sn sc, .slice aA an ac, .slice nA nn nc, .slice pA pn pc] 28)) co cn cA cl cc tA tn tc).1
  have y3 := (box4 (w.alloc (.cells #[.slice vA vn vc, .int .i64 io, .int .i64 im, .slice iA il ic, .int .i64 jo, .int .i64 jm, .slice jA jl jc, .slice eA en ec, .slice sA sn sc, .slice aA an ac, .slice nA nn nc, .slice pA pn pc] 28)) co cn cA cl cc tA tn tc).2
  obtain ⟨g0, g1, g2⟩ := y0
  have e1 : (w.alloc (.cells #[.slice vA vn vc, .int .i64 io, .int .i64 im, .slice iA il ic, .int .i64 jo, .int .i64 jm, .slice jA jl jc, .slice eA en ec, .slice sA sn sc, .slice aA an ac, .slice nA nn nc, .slice pA pn pc] 28)).heap.size = w.heap.size + 1 := by simp
  rw [e1] at g0 g1 g2 y3
  clear e1
  go_enter Try.func4, Try.ntmps4
  go_wp2_with fail
  clear g0 g1 g2 y3
  generalize (((w.alloc (.cells #[.slice vA vn vc, .int .i64 io, .int .i64 im, .slice iA il ic, .int .i64 jo, .int .i64 jm, .slice jA jl jc, .slice eA en ec, .slice sA sn sc, .slice aA an ac, .slice nA nn nc, .slice pA pn pc] 28)).alloc (.cells #[.int .i64 co, .int .i64 cn, .slice cA cl cc, .slice tA tn tc] 31)).alloc (.cells #[.int .i64 co, .int .i64 cn, .slice cA cl cc, .slice tA tn tc] 31)).alloc (.cells #[.slice none 0 0, .int .i64 0, .int .i64 0, .slice none 0 0, .int .i64 0, .int .i64 0, .slice none 0 0, .slice (some ⟨w.heap.size + 2, 0, none⟩) 1 1, .slice none 0 0, .slice none 0 0, .slice none 0 0, .slice none 0 0] 28) = W at *
  generalize hN : w.heap.size = N at *
  have hBW : B ≤ W.heap.size := by omega
  have hDW : N + 2 + 1 ≤ W.heap.size := by omega
  obtain ⟨h1a, h1b⟩ := hvM_bd m
  obtain ⟨h2a, h2b⟩ := hvM_bd (dT c)
  have Hc7 : Hid (∀ (a r : Value) dd os, ((a = .agg #[.slice vA vn vc, .int .i64 io, .int .i64 im, .slice iA il ic, .int .i64 jo, .int .i64 jm, .slice jA jl jc, .slice eA en ec, .slice sA sn sc, .slice aA an ac, .slice nA nn nc, .slice pA pn pc] ∧ r = .int .i64 (hvM m)) ∨ (a = .agg #[.slice none 0 0, .int .i64 0, .int .i64 0, .slice none 0 0, .int .i64 0, .int .i64 0, .slice none 0 0, .slice (some ⟨N + 2, 0, none⟩) 1 1, .slice none 0 0, .slice none 0 0, .slice none 0 0, .slice none 0 0] ∧ r = .int .i64 (hvM (dT c)))) → Calls Try.prog 7 #[a] (grow (redrawn W dd) os) fun e w'' => e = .returned r ∧ ∃ p : Regrown, w'' = grow (redrawn W p.d) p.os) := hide (fun a r dd os h => by
    rcases h with ⟨rfl, rfl⟩ | ⟨rfl, rfl⟩
    · exact q_hvx (x := ⟨⟨vA, vn, vc⟩, ⟨io, im, iA, il, ic⟩, ⟨jo, jm, jA, jl, jc⟩, ⟨eA, en, ec⟩, ⟨sA, sn, sc⟩, ⟨aA, an, ac⟩, ⟨nA, nn, nc⟩, ⟨pA, pn, pc⟩⟩) hBW Hrm
    · exact q_hvx (x := dM (N + 2)) hDW Hrd)
  have Hc10 : Hid (∀ dd os, Calls Try.prog 10 #[.slice vA vn vc, .agg #[.int .i64 co, .int .i64 cn, .slice cA cl cc, .slice tA tn tc], .bool env] (grow (redrawn W dd) os) fun e w'' => e = .returned (.int .i64 (cmdE m.vars c env)) ∧ ∃ p : Regrown, w'' = grow (redrawn W p.d) p.os) := hide (fun dd os => q_dcmd (x := ⟨⟨co, cn, cA, cl, cc⟩, ⟨tA, tn, tc⟩⟩) hBW (hide Hrm.out.1) Hrc (hide Hrm.out.2.1))
  have C0 := cell_regrown (blk Hb0.out (i := 0) rfl)
  have C1 := cell_regrown (blk Hb0.out (i := 1) rfl)
  have C2 := cell_regrown (blk Hb0.out (i := 2) rfl)
  have C3 := cell_regrown (blk Hb0.out (i := 3) rfl)
  have C4 := cell_regrown (blk Hb0.out (i := 4) rfl)
  have C5 := cell_regrown (blk Hb0.out (i := 5) rfl)
  have C6 := cell_regrown (blk Hb0.out (i := 6) rfl)
  have C7 := cell_regrown (blk Hb0.out (i := 7) rfl)
  have C8 := cell_regrown (blk Hb0.out (i := 8) rfl)
  have C9 := cell_regrown (blk Hb0.out (i := 9) rfl)
  have C10 := cell_regrown (blk Hb0.out (i := 10) rfl)
  have C11 := cell_regrown (blk Hb0.out (i := 11) rfl)
  have E0 := cell_regrown (blk Hb1.out (i := 0) rfl)
  have E1 := cell_regrown (blk Hb1.out (i := 1) rfl)
  have E2 := cell_regrown (blk Hb1.out (i := 2) rfl)
  have E3 := cell_regrown (blk Hb1.out (i := 3) rfl)
  have F0 := cell_regrown (blk Hb3.out (i := 0) rfl)
  have F1 := cell_regrown (blk Hb3.out (i := 1) rfl)
  have F2 := cell_regrown (blk Hb3.out (i := 2) rfl)
  have F3 := cell_regrown (blk Hb3.out (i := 3) rfl)
  have F4 := cell_regrown (blk Hb3.out (i := 4) rfl)
  have F5 := cell_regrown (blk Hb3.out (i := 5) rfl)
  have F6 := cell_regrown (blk Hb3.out (i := 6) rfl)
  have F7 := cell_regrown (blk Hb3.out (i := 7) rfl)
  have F8 := cell_regrown (blk Hb3.out (i := 8) rfl)
  have F9 := cell_regrown (blk Hb3.out (i := 9) rfl)
  have F10 := cell_regrown (blk Hb3.out (i := 10) rfl)
  have F11 := cell_regrown (blk Hb3.out (i := 11) rfl)
  by_cases hh : 0 < hvM m + hvM (dT c)
  · have hhb : decide (0 < hvM m + hvM (dT c)) = true := by simp [hh]
    refine wp_region_quiet_below (by kernel_rfl) (by kernel_rfl) ?_
    repeat (go_big_quiet_step (first | (go_at_call 7; exact Hc7.out _ _ _ _ (by first | exact Or.inl ⟨rfl, rfl⟩ | exact Or.inr ⟨rfl, rfl⟩)) | (go_at_call 10; exact Hc10.out _ _)))
    refine wpQuiet_nil ?_
    intro w3 hw3
    obtain ⟨p, hp⟩ := hw3
    have hb3 : Below W.heap.size W w3 := by rw [hp]; exact below_regrown W p.d p.os
    have hz3 := hb3.size
    have Hb3 := hide (Hbx.out.trans (hb3.mono (by omega)))
    clear hp
    go_wp2_with fail
    refine (awake_any _).mono ?_
    rintro e w4 ⟨rfl, hb4⟩
    go_wp2_with fail
    go_ret
    exact ⟨rfl, by rw [hN]; exact Hb3.out.trans (hb4.mono (by omega))⟩
  · have hhb : decide (0 < hvM m + hvM (dT c)) = false := by simp; omega
    refine wp_region_quiet_below (by kernel_rfl) (by kernel_rfl) ?_
    repeat (go_big_quiet_step (first | (go_at_call 7; exact Hc7.out _ _ _ _ (by first | exact Or.inl ⟨rfl, rfl⟩ | exact Or.inr ⟨rfl, rfl⟩)) | (go_at_call 10; exact Hc10.out _ _)))
    refine wpQuiet_nil ?_
    intro w3 hw3
    obtain ⟨p, hp⟩ := hw3
    have hb3 : Below W.heap.size W w3 := by rw [hp]; exact below_regrown W p.d p.os
    have hz3 := hb3.size
    have Hbw := hide (Hbx.out.trans (hb3.mono (by omega)))
    have Hm3 := hide ((hb3.block N (by omega)).trans Hb0.out)
    have Hc3 := hide ((hb3.block (N + 1) (by omega)).trans Hb1.out)
    have Hrm3 := hide (Hrm.out.below (hb3.mono hBW))
    have Hrc3 := hide (Hrc.out.below (hb3.mono hBW))
    have hzw : N + 4 ≤ w3.heap.size := by omega
    clear hp hb3 C0 C1 C2 C3 C4 C5 C6 C7 C8 C9 C10 C11 E0 E1 E2 E3 F0 F1 F2 F3 F4 F5 F6 F7 F8 F9 F10 F11 Hc7 Hc10 Hbx Hb0 Hb1 Hb3 Hrm Hrc Hrd h1a h1b h2a h2b
    by_cases hc : cmdE m.vars c env = 0
    · have hcb : (cmdE m.vars c env != 0) = false := by simp [hc]
      have Hat := hide (fun i s hs => setGo_at (cmdE_parts hc).2.2.2 i s hs)
      have Hcm := hide hc
      have Hvl : Hid (m.vars.length = vn) := hide Hrm3.out.2.1.1
      have Hsl : Hid (c.sets.length = tn) := hide Hrc3.out.2.1
      have htc : tn ≤ tc := Hrc3.out.2.2.1
      have htm : tc ≤ 2 ^ 63 - 1 := Hrc3.out.2.2.2.1
      have hvm : vn ≤ 2 ^ 63 - 1 := Hrm3.out.1.1
      have k3 : w3.cell? ⟨N + 1, 3, none⟩ = some (.slice tA tn tc) := blk Hc3.out (i := 3) rfl
      clear hc
      go_wp2_with fail
      clear k3 hhb hcb hh
      go_loopw [41] (fun i wr => ∃ (k : Nat), k ≤ tn ∧ i = .int .i64 k ∧ Below w3.heap.size w3 wr) (fun i _ => tn - (intOf i).toNat)
      case atStart => exact ⟨0, by omega, rfl, Below.refl _ _⟩
      case round =>
        obtain ⟨k, hk, rfl, hb⟩ := hrel
        have Hb := hide hb
        have hzr := hb.size
        clear hb
        by_cases hlt : k < tn
        · have hlt' : ((k : Int) < (tn : Int)) := by omega
          have Hrsw : Hid (Rows SetAt 5 wr B ⟨tA, tn, tc⟩ c.sets) := hide (Hrc3.out.below (Hb.out.mono (by omega))).2
          obtain ⟨b, off, s, eA2, hbB, hku, ⟨c0, c1, ⟨so, sm, sO, sl2, sc2⟩, ⟨c2, c3, c4⟩, hes⟩⟩ := Hrsw.out.at_ (k := k) hlt
          simp only at eA2 c0 c1 c2 c3 c4
          subst eA2
          obtain ⟨q1, q2, q3, _, q5⟩ := Hat.out k s hku
          obtain ⟨z, p, te⟩ := s
          simp only at c0 c1 q1 q2 q3 q5
          obtain ⟨q, rfl⟩ := Int.eq_ofNat_of_zero_le q1
          have hqn : q < vn := by rw [← Hvl.out]; omega
          have hqn' : (q : Int) < (vn : Int) := by omega
          have hqb : decide ((vn : Int) ≤ (q : Int)) = false := by simp; omega
          have hqc : decide (vn ≤ q) = false := by simp; omega
          have hzb : decide ((q : Int) < 0) = false := by simp
          have Hq5 := hide q5
          have hbA := (Below.refl wr.heap.size wr).alloc (Nat.le_refl _) (.cells #[.int .i64 (q : Int), .bool p, .int .i64 so, .int .i64 sm, .slice sO sl2 sc2] 40)
          have HbV := hide (Hb.out.trans (hbA.mono (by omega)))
          have HrsV : Hid (Rows SetAt 5 _ B ⟨some ⟨b, off, none⟩, tn, tc⟩ c.sets) := hide (Hrc3.out.below (HbV.out.mono (by omega))).2
          obtain ⟨vb, vo, vv, eAv, hvb, hvq, g0, g1, g2, g3, g4⟩ := (Hrm3.out.2.1.below (HbV.out.mono (by omega))).at_ (k := q) hqn
          simp only at eAv
          subst eAv
          have hen : vv.env = env := by rw [← q3]; unfold envAt; simp [hvq]
          rw [hen] at g1
          have hee : (env == env) = true := by simp
          have hne : (env != env) = false := by simp
          have m0 : (wr.alloc (.cells #[.int .i64 (q : Int), .bool p, .int .i64 so, .int .i64 sm, .slice sO sl2 sc2] 40)).cell? ⟨N, 0, none⟩ = some (.slice (some ⟨vb, vo, none⟩) vn vc) := blk ((HbV.out.block N (by omega)).trans Hm3.out) (i := 0) rfl
          have m3 : (wr.alloc (.cells #[.int .i64 (q : Int), .bool p, .int .i64 so, .int .i64 sm, .slice sO sl2 sc2] 40)).cell? ⟨N + 1, 3, none⟩ = some (.slice (some ⟨b, off, none⟩) tn tc) := blk ((HbV.out.block (N + 1) (by omega)).trans Hc3.out) (i := 3) rfl
          obtain ⟨d0, d1, d2, d3, d4⟩ := box5_new wr (q : Int) p so sm sO sl2 sc2
          have hzV : wr.heap.size + 1 ≤ (wr.alloc (.cells #[.int .i64 (q : Int), .bool p, .int .i64 so, .int .i64 sm, .slice sO sl2 sc2] 40)).heap.size := by simp
          have hkc : k ≤ tc := by omega
          have hkc' : (k : Int) ≤ (tc : Int) := by omega
          have Hd0 := hide d0
          clear hbA hes hku q5 q1 q2 q3 hvq g0 g2 g3 g4 hen
          go_wp2_with fail
          clear c0 c1 c2 c3 c4 g1 m0 m3 d0 d1 d2 d3 d4 hee hne hzb hqb hqc
          obtain ⟨wo, rfl⟩ : ∃ wo, wo = wr := ⟨_, rfl⟩
          generalize wo.alloc (.cells #[.int .i64 (q : Int), .bool p, .int .i64 so, .int .i64 sm, .slice sO sl2 sc2] 40) = V at *
          go_loopw [73] (fun i wr => ∃ (j : Nat), j ≤ k ∧ i = .int .i64 j ∧ Below V.heap.size V wr) (fun i _ => k - (intOf i).toNat)
          case atStart => exact ⟨0, by omega, rfl, Below.refl _ _⟩
          case round =>
            obtain ⟨j, hj, rfl, hbi⟩ := hrel
            have hzi := hbi.size
            by_cases hlt2 : j < k
            · have hlt2' : ((j : Int) < (k : Int)) := by omega
              obtain ⟨b2, off2, s2, eA3, hbB2, hku2, ⟨c0, c1, ⟨ro, rm, rO, rl2, rc2⟩, ⟨c2, c3, c4⟩, hes2⟩⟩ := (HrsV.out.keep (w' := wr) (fun b o y h1 hy => SetAt.keep h1 hy (fun p hp => (hbi.mono (by omega)).cell hp))).at_ (k := j) (show j < tn by omega)
              have hq5 := Hq5.out j s2 hlt2 hku2
              obtain ⟨z2, p2, te2⟩ := s2
              simp only at eA3 c0 c1 c2 c3 c4 hq5
              injection eA3 with eA3
              injection eA3 with ee1 ee2
              subst ee1; subst ee2
              have hqe : (z2 == (q : Int)) = false := by simp [hq5]
              have hbA := (Below.refl wr.heap.size wr).alloc (Nat.le_refl _) (.cells #[.int .i64 z2, .bool p2, .int .i64 ro, .int .i64 rm, .slice rO rl2 rc2] 40)
              obtain ⟨d0, d1, d2, d3, d4⟩ := box5_new wr z2 p2 ro rm rO rl2 rc2
              have e0 := (hbA.cell (p := ⟨wo.heap.size, 0, none⟩) (by show wo.heap.size < wr.heap.size; omega)).trans ((hbi.cell (p := ⟨wo.heap.size, 0, none⟩) (by show wo.heap.size < V.heap.size; omega)).trans Hd0.out)
              have Hbj := hide (hbi.trans (hbA.mono (by omega)))
              clear hbA hes2 hku2 hq5 hbi
              go_wp2_with fail
              go_roundw
              case rel => exact ⟨j + 1, by omega, by go_num, Hbj.out⟩
              case measure => simp [intOf]; omega
            · have hlt2' : ¬ ((j : Int) < (k : Int)) := by omega
              have Hbo := hide (HbV.out.trans (hbi.mono (by omega)))
              clear hbi
              go_wp2_with fail
              go_roundw
              case rel => exact ⟨k + 1, by omega, by go_num, Hbo.out⟩
              case measure => simp [intOf]; omega
        · have hlt' : ¬ ((k : Int) < (tn : Int)) := by omega
          obtain ⟨V, rfl⟩ : ∃ V, V = wr := ⟨_, rfl⟩
          have HrmV := hide (Hrm3.out.below (Hb.out.mono (by omega)))
          have HrcV := hide (Hrc3.out.below (Hb.out.mono (by omega)))
          have HmV := hide ((Hb.out.block N (by omega)).trans Hm3.out)
          have HcV := hide ((Hb.out.block (N + 1) (by omega)).trans Hc3.out)
          have HbV := hide (Hbw.out.trans (Hb.out.mono (by omega)))
          have hzV : N + 4 ≤ V.heap.size := by omega
          clear Hrm3 Hrc3 Hm3 Hc3 Hbw Hb hzr hlt
          have m0 : V.cell? ⟨N, 0, none⟩ = some (.slice vA vn vc) := blk HmV.out (i := 0) rfl
          have k3 : V.cell? ⟨N + 1, 3, none⟩ = some (.slice tA tn tc) := blk HcV.out (i := 3) rfl
          by_cases hv0 : vn = 0
          · have hvb : ((vn : Int) == 0) = true := by simp [hv0]
            have hvn : (vn == 0) = true := by simp [hv0]
            clear hv0
            go_wp2_with fail
            refine (awake_any _).mono ?_
            rintro e w4 ⟨rfl, hb4⟩
            go_wp2_with fail
            go_ret
            exact ⟨rfl, by rw [hN]; exact HbV.out.trans (hb4.mono (by omega))⟩
          · have hvb : ((vn : Int) == 0) = false := by simp; omega
            have hvn : (vn == 0) = false := by simp; omega
            by_cases h6 : 6 ≤ tn
            · have h6b : decide ((6 : Int) ≤ (tn : Int)) = true := by simp; omega
              have h6n : decide (6 ≤ tn) = true := by simp; omega
              go_wp2_with fail
              refine (awake_any _).mono ?_
              rintro e w4 ⟨rfl, hb4⟩
              go_wp2_with fail
              go_ret
              exact ⟨rfl, by rw [hN]; exact HbV.out.trans (hb4.mono (by omega))⟩
            · have h6b : decide ((6 : Int) ≤ (tn : Int)) = false := by simp; omega
              have h6n : decide (6 ≤ tn) = false := by simp; omega
              have hwN : IntKind.u64.wrap (vn : Int) = (vn : Int) := by rw [IntKind.wrap_u64]; omega
              obtain ⟨q, hqn, hqe⟩ : ∃ q : Nat, q < vn ∧ (IntKind.u64.wrap v).tmod (vn : Int) = (q : Int) := by
                have h0 : 0 ≤ IntKind.u64.wrap v := by rw [IntKind.wrap_u64]; omega
                have hp : (0 : Int) < (vn : Int) := by omega
                have h1 := Int.emod_nonneg (IntKind.u64.wrap v) (show (vn : Int) ≠ 0 by omega)
                have h2 := Int.emod_lt_of_pos (IntKind.u64.wrap v) hp
                refine ⟨((IntKind.u64.wrap v).tmod (vn : Int)).toNat, ?_, ?_⟩
                · rw [Int.tmod_eq_emod_of_nonneg h0]; omega
                · rw [Int.tmod_eq_emod_of_nonneg h0]; omega
              have hqw : IntKind.i64.wrap (q : Int) = (q : Int) := by rw [IntKind.wrap_i64]; omega
              have hv0' : ¬ (vn : Int) = 0 := by omega
              obtain ⟨ks, hch, hcells⟩ := sets_cells HrcV.out.2
              have Hch := hide hch
              have Hcells := hide hcells
              clear hch hcells
              obtain ⟨i0, hi0, hi1, hi2, hi3⟩ := info_parts infoS
              have Hi0 := hide hi0; have Hi1 := hide hi1; have Hi2 := hide hi2; have Hi3 := hide hi3
              clear hi0 hi1 hi2 hi3
              have hbA := (Below.refl V.heap.size V).alloc (Nat.le_refl _) (.cells #[.int .i64 co, .int .i64 cn, .slice cA cl cc, .slice tA tn tc] 31)
              have hbB := hbA.alloc (by simp) (.cells #[] 40)
              have Hemp : Hid (((V.alloc (.cells #[.int .i64 co, .int .i64 cn, .slice cA cl cc, .slice tA tn tc] 31)).alloc (.cells #[] 40)).ownsRow (V.heap.size + 1) 40 5 (.slice (some ⟨V.heap.size + 1, 0, none⟩) 0 0) 0 []) := hide (own_empty (new_at (by simp)) (Nat.le_refl _))
              have Hlen : Hid (ks.flatten.length = tn * 5) := hide (by rw [Hch.out.len, Hsl.out])
              have Hnil : Hid (tA = none → tn = 0 ∧ tc = 0) := hide (fun e => ⟨by
                by_cases hn : 0 < tn
                · obtain ⟨b, off, e2, _⟩ := HrcV.out.2.2.2.2.1 hn
                  simp only at e2; rw [e] at e2; cases e2
                · omega, HrcV.out.2.2.2.2.2 e⟩)
              have Hcl2 : Hid (∀ ad, tA = some ad → ∀ (j : Nat) u, ks.flatten[j]? = some u → ((V.alloc (.cells #[.int .i64 co, .int .i64 cn, .slice cA cl cc, .slice tA tn tc] 31)).alloc (.cells #[] 40)).cell? (ad.add j) = some u) := hide (fun ad e j u hu => by
                have h := Hcells.out ad e j u hu
                exact (hbB.cell (block_lt_of_cell h)).trans h)
              have l0 := blk HcV.out (i := 0) rfl
              have l1 := blk HcV.out (i := 1) rfl
              have l2 := blk HcV.out (i := 2) rfl
              have k3b : ((V.alloc (.cells #[.int .i64 co, .int .i64 cn, .slice cA cl cc, .slice tA tn tc] 31)).alloc (.cells #[] 40)).cell? ⟨N + 1, 3, none⟩ = some (.slice tA tn tc) := (hbB.cell (by show N + 1 < V.heap.size; omega)).trans k3
              clear hbA hbB
              obtain ⟨vb, vo, vv, eAv, hvb2, hvq, _, g1, _, _, _⟩ := HrmV.out.2.1.at_ (k := q) hqn
              simp only at eAv
              subst eAv
              have hqn' : (q : Int) < (vn : Int) := by omega
              have Hvq := hide hvq
              clear hvq
              by_cases hen : vv.env = env
              · rw [hen] at g1
                have hee : (env == env) = true := by simp
                have hne : (env != env) = false := by simp
                go_wp2_with (first
                  | (at_builtin; refine wpList_append_row rfl _ _ _ rfl (V.heap.size + 1) 40 i0 _ 5 56 Try.underlying29 Hi0.out Hi1.out Hi2.out Hi3.out rfl (by omega) (V.heap.size + 1) 0 0 [] rfl Hemp.out tA tn tc ks.flatten rfl Hlen.out Hnil.out Hcl2.out Hch.out.one (by unfold maxLen; omega) (by omega) (by simp) ?_; intro O cap5 w5 hown5 hgrow5; rw [Nat.zero_add] at hown5 ⊢; rw [List.nil_append] at hown5)
                  | (at_builtin; refine wpList_append_lies _ rfl _ _ _ rfl (V.heap.size + 1) 40 i0 _ 5 56 Try.underlying29 Hi0.out Hi1.out Hi2.out Hi3.out rfl (by omega) (.slice O tn cap5) tn ks.flatten rfl (hown5.alloc _) ⟨w5.heap.size, 0, none⟩ 1 1 [.int .i64 (q : Int), .bool true, .int .i64 0, .int .i64 0, .slice none 0 0] rfl rfl (World.news_of_block (cs := #[.int .i64 (q : Int), .bool true, .int .i64 0, .int .i64 0, .slice none 0 0]) (t := 40) (fr := (0, 0)) (heap_alloc_new w5 _)) (by simp [Value.oneCell']) (by omega) (by unfold maxLen; omega) (by omega) (by have := hgrow5.size; simp at this ⊢; omega) _ rfl ?_; intro g6 cap6 w6 hown6 hgrow6 hat6 hlt6; obtain ⟨hr6, hb6, hz56, hz66⟩ := more_row (y := ⟨⟨co, cn, cA, cl, cc⟩, ⟨tA, tn, tc⟩⟩) hgrow5 hown5 hgrow6; have c63 := hr6.cell (i := 3) (by omega); have z63 := hr6.frozen 3; have hb7 : Below V.heap.size V (w6.setCell ⟨V.heap.size, 3, none⟩ (.slice (some ⟨g6, 0, none⟩) (tn + 1) cap6)) := hb6.setCell (by exact Nat.le_refl _) _; have m07 := (hb7.cell (p := ⟨N, 0, none⟩) (by show N < V.heap.size; omega)).trans m0; have g17 := (hb7.cell (p := ⟨vb, vo + q * 5 + 1, none⟩) (by show vb < V.heap.size; omega)).trans g1; have k37 := (hb7.cell (p := ⟨N + 1, 3, none⟩) (by show N + 1 < V.heap.size; omega)).trans k3; clear hgrow6 hat6))
                have hrow7 := hr6.set 3 (.slice (some ⟨g6, 0, none⟩) (tn + 1) cap6)
                have HRC := hide (more_rc HrcV.out Hch.out (by omega) hown6 hb7)
                have hz7 := hb7.size
                have hz7' : V.heap.size + 1 ≤ (w6.setCell ⟨V.heap.size, 3, none⟩ (.slice (some ⟨g6, 0, none⟩) (tn + 1) cap6)).heap.size := by simp [World.setCell]; omega
                have Hrow := hide hrow7
                have HbW := hide (HbV.out.trans (hb7.mono (by omega)))
                have HrmW := hide (HrmV.out.below (hb7.mono (by omega)))
                have HrcW := hide (HrcV.out.below (hb7.mono (by omega)))
                have HmW := hide ((hb7.block N (by omega)).trans HmV.out)
                have HcW := hide ((hb7.block (N + 1) (by omega)).trans HcV.out)
                have Hg1 := hide g17
                have Henv : Hid (envAt m.vars (q : Int) = vv.env) := hide (by unfold envAt; simp [Hvq.out])
                clear hrow7 hr6 hown6 hb7 hb6 m07 g17 k37 c63 z63 hown5 hgrow5 HrmV HrcV HmV HcV HbV m0 k3 k3b l0 l1 l2 Hcells Hcl2 Hnil Hlen Hemp Hch Hi0 Hi1 Hi2 Hi3 g1
                generalize w6.setCell ⟨V.heap.size, 3, none⟩ (.slice (some ⟨g6, 0, none⟩) (tn + 1) cap6) = W7 at *
                generalize hG : V.heap.size = G at *
                go_loopw [15, 124] (fun wv i wr => ∃ (k : Nat), k ≤ tn ∧ i = .int .i64 k ∧ wv = .int .i64 (wantE m.vars env (q : Int) (c.sets.take k)) ∧ Below W7.heap.size W7 wr) (fun _ i _ => tn - (intOf i).toNat)
                case atStart => exact ⟨0, by omega, rfl, by rw [List.take_zero, want_no (by rw [Henv.out]; exact hen)], Below.refl _ _⟩
                case round =>
                  obtain ⟨k, hk, rfl, rfl, hb⟩ := hrel
                  have hzr := hb.size
                  by_cases hlt : k < tn
                  · have hlt' : ((k : Int) < (tn : Int)) := by omega
                    obtain ⟨b, off, s, eA2, hbB, hku, ⟨c0, c1, ⟨so, sm, sO, sl2, sc2⟩, ⟨c2, c3, c4⟩, hes⟩⟩ := (HrcW.out.below (hb.mono (by omega))).2.at_ (k := k) hlt
                    simp only at eA2 c0 c1 c2 c3 c4
                    subst eA2
                    have HhitW : Hid (s.var = (q : Int) → wantE m.vars env (q : Int) (c.sets.take (k + 1)) = 3) := hide (fun h => want_hit hku h)
                    have HmissW : Hid (¬ s.var = (q : Int) → wantE m.vars env (q : Int) (c.sets.take (k + 1)) = wantE m.vars env (q : Int) (c.sets.take k)) := hide (fun h => want_miss hku h)
                    obtain ⟨z, p, te⟩ := s
                    simp only at c0 c1 HhitW HmissW
                    have hbA := (Below.refl wr.heap.size wr).alloc (Nat.le_refl _) (.cells #[.int .i64 z, .bool p, .int .i64 so, .int .i64 sm, .slice sO sl2 sc2] 40)
                    obtain ⟨d0, d1, d2, d3, d4⟩ := box5_new wr z p so sm sO sl2 sc2
                    have Hbj := hide (hb.trans (hbA.mono (by omega)))
                    clear hbA hes hku hb
                    by_cases hzq : z = (q : Int)
                    · have hzb : (z == (q : Int)) = true := by simp [hzq]
                      have Hw : Hid ((3 : Int) = wantE m.vars env (q : Int) (c.sets.take (k + 1))) := hide (HhitW.out hzq).symm
                      clear hzq HhitW HmissW
                      go_wp2_with fail
                      go_roundw
                      case rel => exact ⟨k + 1, by omega, by go_num, by rw [Hw.out], Hbj.out⟩
                      case measure => simp [intOf]; omega
                    · have hzb : (z == (q : Int)) = false := by simp [hzq]
                      have Hw : Hid (wantE m.vars env (q : Int) (c.sets.take k) = wantE m.vars env (q : Int) (c.sets.take (k + 1))) := hide (HmissW.out hzq).symm
                      clear hzq HhitW HmissW
                      go_wp2_with fail
                      go_roundw
                      case rel => exact ⟨k + 1, by omega, by go_num, by rw [Hw.out], Hbj.out⟩
                      case measure => simp [intOf]; omega
                  · have hlt' : ¬ ((k : Int) < (tn : Int)) := by omega
                    have hwk : c.sets.take k = c.sets := List.take_of_length_le (by rw [Hsl.out]; omega)
                    rw [hwk]
                    clear hwk
                    obtain ⟨u, rfl⟩ : ∃ u, u = wr := ⟨_, rfl⟩
                    have l0 : u.cell? ⟨N + 1, 0, none⟩ = some (.int .i64 co) := blk ((hb.block (N + 1) (by omega)).trans HcW.out) (i := 0) rfl
                    have l1 : u.cell? ⟨N + 1, 1, none⟩ = some (.int .i64 cn) := blk ((hb.block (N + 1) (by omega)).trans HcW.out) (i := 1) rfl
                    have l2 : u.cell? ⟨N + 1, 2, none⟩ = some (.slice cA cl cc) := blk ((hb.block (N + 1) (by omega)).trans HcW.out) (i := 2) rfl
                    have l3 : u.cell? ⟨N + 1, 3, none⟩ = some (.slice tA tn tc) := blk ((hb.block (N + 1) (by omega)).trans HcW.out) (i := 3) rfl
                    have Hl := sides_laws Hcm.out (v := (q : Int)) (by omega) (by rw [Hvl.out]; omega) (by rw [Hsl.out]; omega)
                    have Hlaw1 : Hid (cmdE m.vars { c with sets := c.sets ++ [⟨(q : Int), true, .mk 0 0 []⟩] } env = wantE m.vars env (q : Int) c.sets) := hide (by rw [Hl.1]; rfl)
                    have Hlaw2 : Hid (cmdE m.vars { c with guard := gT (q : Int) } env = if env = true ∨ vv.env = false then 5 else 0) := hide (by rw [Hl.2, Henv.out])
                    clear Hl
                    generalize wantE m.vars env (q : Int) c.sets = want at *
                    obtain ⟨g0', gb, gz, grc⟩ := g_world u tA tn tc (q : Int) B c (by omega) (HrcW.out.below (hb.mono (by omega))).2
                    have hb9 := hb.trans (gb.mono (by omega))
                    have HmX := hide ((hb9.block N (by omega)).trans HmW.out)
                    have HrmX := hide (HrmW.out.below (hb9.mono (by omega)))
                    have HRX := hide (HRC.out.below hb9)
                    have HgX := hide grc
                    have Hg0 := hide g0'
                    have HbX := hide (HbW.out.trans (hb9.mono (by omega)))
                    have e0 : (((u.alloc (.cells #[.int .i64 8, .int .i64 0, .slice (some ⟨u.heap.size + 1 + 1, 0, none⟩) 2 2, .slice tA tn tc] 31)).alloc (.cells #[.int .i64 4, .int .i64 (q : Int), .slice none 0 0, .int .i64 4, .int .i64 (q : Int), .slice none 0 0] 25)).alloc (.cells #[.int .i64 2, .int .i64 0, .slice none 0 0, .int .i64 9, .int .i64 0, .slice (some ⟨u.heap.size + 1, 0, none⟩) 2 2] 25)).cell? ⟨N, 0, none⟩ = some (.slice (some ⟨vb, vo, none⟩) vn vc) := blk HmX.out (i := 0) rfl
                    have e3 : (((u.alloc (.cells #[.int .i64 8, .int .i64 0, .slice (some ⟨u.heap.size + 1 + 1, 0, none⟩) 2 2, .slice tA tn tc] 31)).alloc (.cells #[.int .i64 4, .int .i64 (q : Int), .slice none 0 0, .int .i64 4, .int .i64 (q : Int), .slice none 0 0] 25)).alloc (.cells #[.int .i64 2, .int .i64 0, .slice none 0 0, .int .i64 9, .int .i64 0, .slice (some ⟨u.heap.size + 1, 0, none⟩) 2 2] 25)).cell? ⟨N + 1, 3, none⟩ = some (.slice tA tn tc) := (gb.cell (by show N + 1 < u.heap.size; omega)).trans l3
                    have gg := (hb9.cell (p := ⟨vb, vo + q * 5 + 1, none⟩) (by show vb < W7.heap.size; omega)).trans Hg1.out
                    have a0 : (((u.alloc (.cells #[.int .i64 8, .int .i64 0, .slice (some ⟨u.heap.size + 1 + 1, 0, none⟩) 2 2, .slice tA tn tc] 31)).alloc (.cells #[.int .i64 4, .int .i64 (q : Int), .slice none 0 0, .int .i64 4, .int .i64 (q : Int), .slice none 0 0] 25)).alloc (.cells #[.int .i64 2, .int .i64 0, .slice none 0 0, .int .i64 9, .int .i64 0, .slice (some ⟨u.heap.size + 1, 0, none⟩) 2 2] 25)).cell? ⟨G, 0, none⟩ = some (.int .i64 co) := (hb9.cell (p := ⟨G, 0, none⟩) (by show G < W7.heap.size; omega)).trans (Hrow.out.cell (i := 0) (by omega))
                    have a1 : (((u.alloc (.cells #[.int .i64 8, .int .i64 0, .slice (some ⟨u.heap.size + 1 + 1, 0, none⟩) 2 2, .slice tA tn tc] 31)).alloc (.cells #[.int .i64 4, .int .i64 (q : Int), .slice none 0 0, .int .i64 4, .int .i64 (q : Int), .slice none 0 0] 25)).alloc (.cells #[.int .i64 2, .int .i64 0, .slice none 0 0, .int .i64 9, .int .i64 0, .slice (some ⟨u.heap.size + 1, 0, none⟩) 2 2] 25)).cell? ⟨G, 1, none⟩ = some (.int .i64 cn) := (hb9.cell (p := ⟨G, 1, none⟩) (by show G < W7.heap.size; omega)).trans (Hrow.out.cell (i := 1) (by omega))
                    have a2 : (((u.alloc (.cells #[.int .i64 8, .int .i64 0, .slice (some ⟨u.heap.size + 1 + 1, 0, none⟩) 2 2, .slice tA tn tc] 31)).alloc (.cells #[.int .i64 4, .int .i64 (q : Int), .slice none 0 0, .int .i64 4, .int .i64 (q : Int), .slice none 0 0] 25)).alloc (.cells #[.int .i64 2, .int .i64 0, .slice none 0 0, .int .i64 9, .int .i64 0, .slice (some ⟨u.heap.size + 1, 0, none⟩) 2 2] 25)).cell? ⟨G, 2, none⟩ = some (.slice cA cl cc) := (hb9.cell (p := ⟨G, 2, none⟩) (by show G < W7.heap.size; omega)).trans (Hrow.out.cell (i := 2) (by omega))
                    have a3 : (((u.alloc (.cells #[.int .i64 8, .int .i64 0, .slice (some ⟨u.heap.size + 1 + 1, 0, none⟩) 2 2, .slice tA tn tc] 31)).alloc (.cells #[.int .i64 4, .int .i64 (q : Int), .slice none 0 0, .int .i64 4, .int .i64 (q : Int), .slice none 0 0] 25)).alloc (.cells #[.int .i64 2, .int .i64 0, .slice none 0 0, .int .i64 9, .int .i64 0, .slice (some ⟨u.heap.size + 1, 0, none⟩) 2 2] 25)).cell? ⟨G, 3, none⟩ = some (.slice (some ⟨g6, 0, none⟩) (tn + 1) cap6) := (hb9.cell (p := ⟨G, 3, none⟩) (by show G < W7.heap.size; omega)).trans (Hrow.out.cell (i := 3) (by omega))
                    clear hb hb9 gb grc g0' HRC HrmW HrcW HmW HcW HbW Hrow Hg1
                    have hqn2 := hqn'
                    cases env
                    · cases hvv : vv.env
                      · rw [hvv] at Hlaw2
                        rw [if_pos (by simp)] at Hlaw2
                        go_wp2_with fail
                        clear l0 l1 l2 l3 e0 e3 gg a0 a1 a2 a3
                        generalize ((u.alloc (.cells #[.int .i64 8, .int .i64 0, .slice (some ⟨u.heap.size + 1 + 1, 0, none⟩) 2 2, .slice tA tn tc] 31)).alloc (.cells #[.int .i64 4, .int .i64 (q : Int), .slice none 0 0, .int .i64 4, .int .i64 (q : Int), .slice none 0 0] 25)).alloc (.cells #[.int .i64 2, .int .i64 0, .slice none 0 0, .int .i64 9, .int .i64 0, .slice (some ⟨u.heap.size + 1, 0, none⟩) 2 2] 25) = X at *
                        refine (dcmd_any W7.heap.size (some ⟨vb, vo, none⟩) vn vc m.vars ⟨⟨co, cn, cA, cl, cc⟩, ⟨some ⟨g6, 0, none⟩, tn + 1, cap6⟩⟩ { c with sets := c.sets ++ [⟨(q : Int), true, .mk 0 0 []⟩] } false X HrmX.out.1 (by omega) HRX.out (HrmX.out.2.1.more (by omega))).mono ?_
                        rintro e x1 ⟨rfl, hbx1⟩
                        have hzx1 := hbx1.size
                        rw [Hlaw1.out]
                        have n0 : x1.cell? ⟨N, 0, none⟩ = some (.slice (some ⟨vb, vo, none⟩) vn vc) := blk ((hbx1.block N (by omega)).trans HmX.out) (i := 0) rfl
                        have a0 : x1.cell? ⟨u.heap.size, 0, none⟩ = some (.int .i64 8) := blk ((hbx1.block _ (by omega)).trans Hg0.out) (i := 0) rfl
                        have a1 : x1.cell? ⟨u.heap.size, 1, none⟩ = some (.int .i64 0) := blk ((hbx1.block _ (by omega)).trans Hg0.out) (i := 1) rfl
                        have a2 : x1.cell? ⟨u.heap.size, 2, none⟩ = some (.slice (some ⟨u.heap.size + 1 + 1, 0, none⟩) 2 2) := blk ((hbx1.block _ (by omega)).trans Hg0.out) (i := 2) rfl
                        have a3 : x1.cell? ⟨u.heap.size, 3, none⟩ = some (.slice tA tn tc) := blk ((hbx1.block _ (by omega)).trans Hg0.out) (i := 3) rfl
                        have HrmX1 := hide (HrmX.out.below (hbx1.mono (by omega)))
                        have HgX1 := hide (HgX.out.below (hbx1.mono (by omega)))
                        have HbX1 := hide (HbX.out.trans (hbx1.mono (by omega)))
                        have hwe : (want == want) = true := by simp
                        clear hbx1
                        go_wp2_with fail
                        clear n0 a0 a1 a2 a3
                        refine (dcmd_any (u.heap.size + 3) (some ⟨vb, vo, none⟩) vn vc m.vars ⟨⟨8, 0, some ⟨u.heap.size + 1 + 1, 0, none⟩, 2, 2⟩, ⟨tA, tn, tc⟩⟩ { c with guard := gT (q : Int) } false x1 HrmX1.out.1 (by omega) HgX1.out (HrmX1.out.2.1.more (by omega))).mono ?_
                        rintro e x2 ⟨rfl, hbx2⟩
                        have hzx2 := hbx2.size
                        rw [Hlaw2.out]
                        have HbX2 := hide (HbX1.out.trans (hbx2.mono (by omega)))
                        clear hbx2
                        go_wp2_with fail
                        refine (awake_any _).mono ?_
                        rintro e x3 ⟨rfl, hbx3⟩
                        have HbX3 := hide (HbX2.out.trans (hbx3.mono (by omega)))
                        clear hbx3
                        go_wp2_with fail
                        go_ret
                        exact ⟨rfl, by rw [hN]; exact HbX3.out⟩
                      · rw [hvv] at Hlaw2
                        exact absurd (hvv.symm.trans hen) (by simp)
                    · rw [if_pos (by simp)] at Hlaw2
                      go_wp2_with fail
                      clear l0 l1 l2 l3 e0 e3 gg a0 a1 a2 a3
                      generalize ((u.alloc (.cells #[.int .i64 8, .int .i64 0, .slice (some ⟨u.heap.size + 1 + 1, 0, none⟩) 2 2, .slice tA tn tc] 31)).alloc (.cells #[.int .i64 4, .int .i64 (q : Int), .slice none 0 0, .int .i64 4, .int .i64 (q : Int), .slice none 0 0] 25)).alloc (.cells #[.int .i64 2, .int .i64 0, .slice none 0 0, .int .i64 9, .int .i64 0, .slice (some ⟨u.heap.size + 1, 0, none⟩) 2 2] 25) = X at *
                      refine (dcmd_any W7.heap.size (some ⟨vb, vo, none⟩) vn vc m.vars ⟨⟨co, cn, cA, cl, cc⟩, ⟨some ⟨g6, 0, none⟩, tn + 1, cap6⟩⟩ { c with sets := c.sets ++ [⟨(q : Int), true, .mk 0 0 []⟩] } true X HrmX.out.1 (by omega) HRX.out (HrmX.out.2.1.more (by omega))).mono ?_
                      rintro e x1 ⟨rfl, hbx1⟩
                      have hzx1 := hbx1.size
                      rw [Hlaw1.out]
                      have n0 : x1.cell? ⟨N, 0, none⟩ = some (.slice (some ⟨vb, vo, none⟩) vn vc) := blk ((hbx1.block N (by omega)).trans HmX.out) (i := 0) rfl
                      have a0 : x1.cell? ⟨u.heap.size, 0, none⟩ = some (.int .i64 8) := blk ((hbx1.block _ (by omega)).trans Hg0.out) (i := 0) rfl
                      have a1 : x1.cell? ⟨u.heap.size, 1, none⟩ = some (.int .i64 0) := blk ((hbx1.block _ (by omega)).trans Hg0.out) (i := 1) rfl
                      have a2 : x1.cell? ⟨u.heap.size, 2, none⟩ = some (.slice (some ⟨u.heap.size + 1 + 1, 0, none⟩) 2 2) := blk ((hbx1.block _ (by omega)).trans Hg0.out) (i := 2) rfl
                      have a3 : x1.cell? ⟨u.heap.size, 3, none⟩ = some (.slice tA tn tc) := blk ((hbx1.block _ (by omega)).trans Hg0.out) (i := 3) rfl
                      have HrmX1 := hide (HrmX.out.below (hbx1.mono (by omega)))
                      have HgX1 := hide (HgX.out.below (hbx1.mono (by omega)))
                      have HbX1 := hide (HbX.out.trans (hbx1.mono (by omega)))
                      have hwe : (want == want) = true := by simp
                      clear hbx1
                      go_wp2_with fail
                      clear n0 a0 a1 a2 a3
                      refine (dcmd_any (u.heap.size + 3) (some ⟨vb, vo, none⟩) vn vc m.vars ⟨⟨8, 0, some ⟨u.heap.size + 1 + 1, 0, none⟩, 2, 2⟩, ⟨tA, tn, tc⟩⟩ { c with guard := gT (q : Int) } true x1 HrmX1.out.1 (by omega) HgX1.out (HrmX1.out.2.1.more (by omega))).mono ?_
                      rintro e x2 ⟨rfl, hbx2⟩
                      have hzx2 := hbx2.size
                      rw [Hlaw2.out]
                      have HbX2 := hide (HbX1.out.trans (hbx2.mono (by omega)))
                      clear hbx2
                      go_wp2_with fail
                      refine (awake_any _).mono ?_
                      rintro e x3 ⟨rfl, hbx3⟩
                      have HbX3 := hide (HbX2.out.trans (hbx3.mono (by omega)))
                      clear hbx3
                      go_wp2_with fail
                      go_ret
                      exact ⟨rfl, by rw [hN]; exact HbX3.out⟩
              · have hee : (vv.env == env) = false := by simp [hen]
                have hne : (vv.env != env) = true := by simp [hen]
                go_wp2_with (first
                  | (at_builtin; refine wpList_append_row rfl _ _ _ rfl (V.heap.size + 1) 40 i0 _ 5 56 Try.underlying29 Hi0.out Hi1.out Hi2.out Hi3.out rfl (by omega) (V.heap.size + 1) 0 0 [] rfl Hemp.out tA tn tc ks.flatten rfl Hlen.out Hnil.out Hcl2.out Hch.out.one (by unfold maxLen; omega) (by omega) (by simp) ?_; intro O cap5 w5 hown5 hgrow5; rw [Nat.zero_add] at hown5 ⊢; rw [List.nil_append] at hown5)
                  | (at_builtin; refine wpList_append_lies _ rfl _ _ _ rfl (V.heap.size + 1) 40 i0 _ 5 56 Try.underlying29 Hi0.out Hi1.out Hi2.out Hi3.out rfl (by omega) (.slice O tn cap5) tn ks.flatten rfl (hown5.alloc _) ⟨w5.heap.size, 0, none⟩ 1 1 [.int .i64 (q : Int), .bool true, .int .i64 0, .int .i64 0, .slice none 0 0] rfl rfl (World.news_of_block (cs := #[.int .i64 (q : Int), .bool true, .int .i64 0, .int .i64 0, .slice none 0 0]) (t := 40) (fr := (0, 0)) (heap_alloc_new w5 _)) (by simp [Value.oneCell']) (by omega) (by unfold maxLen; omega) (by omega) (by have := hgrow5.size; simp at this ⊢; omega) _ rfl ?_; intro g6 cap6 w6 hown6 hgrow6 hat6 hlt6; obtain ⟨hr6, hb6, hz56, hz66⟩ := more_row (y := ⟨⟨co, cn, cA, cl, cc⟩, ⟨tA, tn, tc⟩⟩) hgrow5 hown5 hgrow6; have c63 := hr6.cell (i := 3) (by omega); have z63 := hr6.frozen 3; have hb7 : Below V.heap.size V (w6.setCell ⟨V.heap.size, 3, none⟩ (.slice (some ⟨g6, 0, none⟩) (tn + 1) cap6)) := hb6.setCell (by exact Nat.le_refl _) _; have m07 := (hb7.cell (p := ⟨N, 0, none⟩) (by show N < V.heap.size; omega)).trans m0; have g17 := (hb7.cell (p := ⟨vb, vo + q * 5 + 1, none⟩) (by show vb < V.heap.size; omega)).trans g1; have k37 := (hb7.cell (p := ⟨N + 1, 3, none⟩) (by show N + 1 < V.heap.size; omega)).trans k3; clear hgrow6 hat6))
                have hrow7 := hr6.set 3 (.slice (some ⟨g6, 0, none⟩) (tn + 1) cap6)
                have HRC := hide (more_rc HrcV.out Hch.out (by omega) hown6 hb7)
                have hz7 := hb7.size
                have hz7' : V.heap.size + 1 ≤ (w6.setCell ⟨V.heap.size, 3, none⟩ (.slice (some ⟨g6, 0, none⟩) (tn + 1) cap6)).heap.size := by simp [World.setCell]; omega
                have Hrow := hide hrow7
                have HbW := hide (HbV.out.trans (hb7.mono (by omega)))
                have HrmW := hide (HrmV.out.below (hb7.mono (by omega)))
                have HrcW := hide (HrcV.out.below (hb7.mono (by omega)))
                have HmW := hide ((hb7.block N (by omega)).trans HmV.out)
                have HcW := hide ((hb7.block (N + 1) (by omega)).trans HcV.out)
                have Hg1 := hide g17
                have Henv : Hid (envAt m.vars (q : Int) = vv.env) := hide (by unfold envAt; simp [Hvq.out])
                clear hrow7 hr6 hown6 hb7 hb6 m07 g17 k37 c63 z63 hown5 hgrow5 HrmV HrcV HmV HcV HbV m0 k3 k3b l0 l1 l2 Hcells Hcl2 Hnil Hlen Hemp Hch Hi0 Hi1 Hi2 Hi3 g1
                generalize w6.setCell ⟨V.heap.size, 3, none⟩ (.slice (some ⟨g6, 0, none⟩) (tn + 1) cap6) = W7 at *
                generalize hG : V.heap.size = G at *
                go_loopw [15, 124] (fun wv i wr => ∃ (k : Nat), k ≤ tn ∧ i = .int .i64 k ∧ wv = .int .i64 (wantE m.vars env (q : Int) (c.sets.take k)) ∧ Below W7.heap.size W7 wr) (fun _ i _ => tn - (intOf i).toNat)
                case atStart => exact ⟨0, by omega, rfl, by rw [List.take_zero, want_yes (by rw [Henv.out]; exact hen)], Below.refl _ _⟩
                case round =>
                  obtain ⟨k, hk, rfl, rfl, hb⟩ := hrel
                  have hzr := hb.size
                  by_cases hlt : k < tn
                  · have hlt' : ((k : Int) < (tn : Int)) := by omega
                    obtain ⟨b, off, s, eA2, hbB, hku, ⟨c0, c1, ⟨so, sm, sO, sl2, sc2⟩, ⟨c2, c3, c4⟩, hes⟩⟩ := (HrcW.out.below (hb.mono (by omega))).2.at_ (k := k) hlt
                    simp only at eA2 c0 c1 c2 c3 c4
                    subst eA2
                    have HhitW : Hid (s.var = (q : Int) → wantE m.vars env (q : Int) (c.sets.take (k + 1)) = 3) := hide (fun h => want_hit hku h)
                    have HmissW : Hid (¬ s.var = (q : Int) → wantE m.vars env (q : Int) (c.sets.take (k + 1)) = wantE m.vars env (q : Int) (c.sets.take k)) := hide (fun h => want_miss hku h)
                    obtain ⟨z, p, te⟩ := s
                    simp only at c0 c1 HhitW HmissW
                    have hbA := (Below.refl wr.heap.size wr).alloc (Nat.le_refl _) (.cells #[.int .i64 z, .bool p, .int .i64 so, .int .i64 sm, .slice sO sl2 sc2] 40)
                    obtain ⟨d0, d1, d2, d3, d4⟩ := box5_new wr z p so sm sO sl2 sc2
                    have Hbj := hide (hb.trans (hbA.mono (by omega)))
                    clear hbA hes hku hb
                    by_cases hzq : z = (q : Int)
                    · have hzb : (z == (q : Int)) = true := by simp [hzq]
                      have Hw : Hid ((3 : Int) = wantE m.vars env (q : Int) (c.sets.take (k + 1))) := hide (HhitW.out hzq).symm
                      clear hzq HhitW HmissW
                      go_wp2_with fail
                      go_roundw
                      case rel => exact ⟨k + 1, by omega, by go_num, by rw [Hw.out], Hbj.out⟩
                      case measure => simp [intOf]; omega
                    · have hzb : (z == (q : Int)) = false := by simp [hzq]
                      have Hw : Hid (wantE m.vars env (q : Int) (c.sets.take k) = wantE m.vars env (q : Int) (c.sets.take (k + 1))) := hide (HmissW.out hzq).symm
                      clear hzq HhitW HmissW
                      go_wp2_with fail
                      go_roundw
                      case rel => exact ⟨k + 1, by omega, by go_num, by rw [Hw.out], Hbj.out⟩
                      case measure => simp [intOf]; omega
                  · have hlt' : ¬ ((k : Int) < (tn : Int)) := by omega
                    have hwk : c.sets.take k = c.sets := List.take_of_length_le (by rw [Hsl.out]; omega)
                    rw [hwk]
                    clear hwk
                    obtain ⟨u, rfl⟩ : ∃ u, u = wr := ⟨_, rfl⟩
                    have l0 : u.cell? ⟨N + 1, 0, none⟩ = some (.int .i64 co) := blk ((hb.block (N + 1) (by omega)).trans HcW.out) (i := 0) rfl
                    have l1 : u.cell? ⟨N + 1, 1, none⟩ = some (.int .i64 cn) := blk ((hb.block (N + 1) (by omega)).trans HcW.out) (i := 1) rfl
                    have l2 : u.cell? ⟨N + 1, 2, none⟩ = some (.slice cA cl cc) := blk ((hb.block (N + 1) (by omega)).trans HcW.out) (i := 2) rfl
                    have l3 : u.cell? ⟨N + 1, 3, none⟩ = some (.slice tA tn tc) := blk ((hb.block (N + 1) (by omega)).trans HcW.out) (i := 3) rfl
                    have Hl := sides_laws Hcm.out (v := (q : Int)) (by omega) (by rw [Hvl.out]; omega) (by rw [Hsl.out]; omega)
                    have Hlaw1 : Hid (cmdE m.vars { c with sets := c.sets ++ [⟨(q : Int), true, .mk 0 0 []⟩] } env = wantE m.vars env (q : Int) c.sets) := hide (by rw [Hl.1]; rfl)
                    have Hlaw2 : Hid (cmdE m.vars { c with guard := gT (q : Int) } env = if env = true ∨ vv.env = false then 5 else 0) := hide (by rw [Hl.2, Henv.out])
                    clear Hl
                    generalize wantE m.vars env (q : Int) c.sets = want at *
                    obtain ⟨g0', gb, gz, grc⟩ := g_world u tA tn tc (q : Int) B c (by omega) (HrcW.out.below (hb.mono (by omega))).2
                    have hb9 := hb.trans (gb.mono (by omega))
                    have HmX := hide ((hb9.block N (by omega)).trans HmW.out)
                    have HrmX := hide (HrmW.out.below (hb9.mono (by omega)))
                    have HRX := hide (HRC.out.below hb9)
                    have HgX := hide grc
                    have Hg0 := hide g0'
                    have HbX := hide (HbW.out.trans (hb9.mono (by omega)))
                    have e0 : (((u.alloc (.cells #[.int .i64 8, .int .i64 0, .slice (some ⟨u.heap.size + 1 + 1, 0, none⟩) 2 2, .slice tA tn tc] 31)).alloc (.cells #[.int .i64 4, .int .i64 (q : Int), .slice none 0 0, .int .i64 4, .int .i64 (q : Int), .slice none 0 0] 25)).alloc (.cells #[.int .i64 2, .int .i64 0, .slice none 0 0, .int .i64 9, .int .i64 0, .slice (some ⟨u.heap.size + 1, 0, none⟩) 2 2] 25)).cell? ⟨N, 0, none⟩ = some (.slice (some ⟨vb, vo, none⟩) vn vc) := blk HmX.out (i := 0) rfl
                    have e3 : (((u.alloc (.cells #[.int .i64 8, .int .i64 0, .slice (some ⟨u.heap.size + 1 + 1, 0, none⟩) 2 2, .slice tA tn tc] 31)).alloc (.cells #[.int .i64 4, .int .i64 (q : Int), .slice none 0 0, .int .i64 4, .int .i64 (q : Int), .slice none 0 0] 25)).alloc (.cells #[.int .i64 2, .int .i64 0, .slice none 0 0, .int .i64 9, .int .i64 0, .slice (some ⟨u.heap.size + 1, 0, none⟩) 2 2] 25)).cell? ⟨N + 1, 3, none⟩ = some (.slice tA tn tc) := (gb.cell (by show N + 1 < u.heap.size; omega)).trans l3
                    have gg := (hb9.cell (p := ⟨vb, vo + q * 5 + 1, none⟩) (by show vb < W7.heap.size; omega)).trans Hg1.out
                    have a0 : (((u.alloc (.cells #[.int .i64 8, .int .i64 0, .slice (some ⟨u.heap.size + 1 + 1, 0, none⟩) 2 2, .slice tA tn tc] 31)).alloc (.cells #[.int .i64 4, .int .i64 (q : Int), .slice none 0 0, .int .i64 4, .int .i64 (q : Int), .slice none 0 0] 25)).alloc (.cells #[.int .i64 2, .int .i64 0, .slice none 0 0, .int .i64 9, .int .i64 0, .slice (some ⟨u.heap.size + 1, 0, none⟩) 2 2] 25)).cell? ⟨G, 0, none⟩ = some (.int .i64 co) := (hb9.cell (p := ⟨G, 0, none⟩) (by show G < W7.heap.size; omega)).trans (Hrow.out.cell (i := 0) (by omega))
                    have a1 : (((u.alloc (.cells #[.int .i64 8, .int .i64 0, .slice (some ⟨u.heap.size + 1 + 1, 0, none⟩) 2 2, .slice tA tn tc] 31)).alloc (.cells #[.int .i64 4, .int .i64 (q : Int), .slice none 0 0, .int .i64 4, .int .i64 (q : Int), .slice none 0 0] 25)).alloc (.cells #[.int .i64 2, .int .i64 0, .slice none 0 0, .int .i64 9, .int .i64 0, .slice (some ⟨u.heap.size + 1, 0, none⟩) 2 2] 25)).cell? ⟨G, 1, none⟩ = some (.int .i64 cn) := (hb9.cell (p := ⟨G, 1, none⟩) (by show G < W7.heap.size; omega)).trans (Hrow.out.cell (i := 1) (by omega))
                    have a2 : (((u.alloc (.cells #[.int .i64 8, .int .i64 0, .slice (some ⟨u.heap.size + 1 + 1, 0, none⟩) 2 2, .slice tA tn tc] 31)).alloc (.cells #[.int .i64 4, .int .i64 (q : Int), .slice none 0 0, .int .i64 4, .int .i64 (q : Int), .slice none 0 0] 25)).alloc (.cells #[.int .i64 2, .int .i64 0, .slice none 0 0, .int .i64 9, .int .i64 0, .slice (some ⟨u.heap.size + 1, 0, none⟩) 2 2] 25)).cell? ⟨G, 2, none⟩ = some (.slice cA cl cc) := (hb9.cell (p := ⟨G, 2, none⟩) (by show G < W7.heap.size; omega)).trans (Hrow.out.cell (i := 2) (by omega))
                    have a3 : (((u.alloc (.cells #[.int .i64 8, .int .i64 0, .slice (some ⟨u.heap.size + 1 + 1, 0, none⟩) 2 2, .slice tA tn tc] 31)).alloc (.cells #[.int .i64 4, .int .i64 (q : Int), .slice none 0 0, .int .i64 4, .int .i64 (q : Int), .slice none 0 0] 25)).alloc (.cells #[.int .i64 2, .int .i64 0, .slice none 0 0, .int .i64 9, .int .i64 0, .slice (some ⟨u.heap.size + 1, 0, none⟩) 2 2] 25)).cell? ⟨G, 3, none⟩ = some (.slice (some ⟨g6, 0, none⟩) (tn + 1) cap6) := (hb9.cell (p := ⟨G, 3, none⟩) (by show G < W7.heap.size; omega)).trans (Hrow.out.cell (i := 3) (by omega))
                    clear hb hb9 gb grc g0' HRC HrmW HrcW HmW HcW HbW Hrow Hg1
                    have hqn2 := hqn'
                    cases env
                    · cases hvv : vv.env
                      · rw [hvv] at Hlaw2
                        rw [hvv] at gg
                        rw [if_pos (by simp)] at Hlaw2
                        go_wp2_with fail
                        clear l0 l1 l2 l3 e0 e3 gg a0 a1 a2 a3
                        generalize ((u.alloc (.cells #[.int .i64 8, .int .i64 0, .slice (some ⟨u.heap.size + 1 + 1, 0, none⟩) 2 2, .slice tA tn tc] 31)).alloc (.cells #[.int .i64 4, .int .i64 (q : Int), .slice none 0 0, .int .i64 4, .int .i64 (q : Int), .slice none 0 0] 25)).alloc (.cells #[.int .i64 2, .int .i64 0, .slice none 0 0, .int .i64 9, .int .i64 0, .slice (some ⟨u.heap.size + 1, 0, none⟩) 2 2] 25) = X at *
                        refine (dcmd_any W7.heap.size (some ⟨vb, vo, none⟩) vn vc m.vars ⟨⟨co, cn, cA, cl, cc⟩, ⟨some ⟨g6, 0, none⟩, tn + 1, cap6⟩⟩ { c with sets := c.sets ++ [⟨(q : Int), true, .mk 0 0 []⟩] } false X HrmX.out.1 (by omega) HRX.out (HrmX.out.2.1.more (by omega))).mono ?_
                        rintro e x1 ⟨rfl, hbx1⟩
                        have hzx1 := hbx1.size
                        rw [Hlaw1.out]
                        have n0 : x1.cell? ⟨N, 0, none⟩ = some (.slice (some ⟨vb, vo, none⟩) vn vc) := blk ((hbx1.block N (by omega)).trans HmX.out) (i := 0) rfl
                        have a0 : x1.cell? ⟨u.heap.size, 0, none⟩ = some (.int .i64 8) := blk ((hbx1.block _ (by omega)).trans Hg0.out) (i := 0) rfl
                        have a1 : x1.cell? ⟨u.heap.size, 1, none⟩ = some (.int .i64 0) := blk ((hbx1.block _ (by omega)).trans Hg0.out) (i := 1) rfl
                        have a2 : x1.cell? ⟨u.heap.size, 2, none⟩ = some (.slice (some ⟨u.heap.size + 1 + 1, 0, none⟩) 2 2) := blk ((hbx1.block _ (by omega)).trans Hg0.out) (i := 2) rfl
                        have a3 : x1.cell? ⟨u.heap.size, 3, none⟩ = some (.slice tA tn tc) := blk ((hbx1.block _ (by omega)).trans Hg0.out) (i := 3) rfl
                        have HrmX1 := hide (HrmX.out.below (hbx1.mono (by omega)))
                        have HgX1 := hide (HgX.out.below (hbx1.mono (by omega)))
                        have HbX1 := hide (HbX.out.trans (hbx1.mono (by omega)))
                        have hwe : (want == want) = true := by simp
                        clear hbx1
                        go_wp2_with fail
                        clear n0 a0 a1 a2 a3
                        refine (dcmd_any (u.heap.size + 3) (some ⟨vb, vo, none⟩) vn vc m.vars ⟨⟨8, 0, some ⟨u.heap.size + 1 + 1, 0, none⟩, 2, 2⟩, ⟨tA, tn, tc⟩⟩ { c with guard := gT (q : Int) } false x1 HrmX1.out.1 (by omega) HgX1.out (HrmX1.out.2.1.more (by omega))).mono ?_
                        rintro e x2 ⟨rfl, hbx2⟩
                        have hzx2 := hbx2.size
                        rw [Hlaw2.out]
                        have HbX2 := hide (HbX1.out.trans (hbx2.mono (by omega)))
                        clear hbx2
                        go_wp2_with fail
                        refine (awake_any _).mono ?_
                        rintro e x3 ⟨rfl, hbx3⟩
                        have HbX3 := hide (HbX2.out.trans (hbx3.mono (by omega)))
                        clear hbx3
                        go_wp2_with fail
                        go_ret
                        exact ⟨rfl, by rw [hN]; exact HbX3.out⟩
                      · rw [hvv] at Hlaw2
                        rw [hvv] at gg
                        rw [if_neg (by simp)] at Hlaw2
                        go_wp2_with fail
                        clear l0 l1 l2 l3 e0 e3 gg a0 a1 a2 a3
                        generalize ((u.alloc (.cells #[.int .i64 8, .int .i64 0, .slice (some ⟨u.heap.size + 1 + 1, 0, none⟩) 2 2, .slice tA tn tc] 31)).alloc (.cells #[.int .i64 4, .int .i64 (q : Int), .slice none 0 0, .int .i64 4, .int .i64 (q : Int), .slice none 0 0] 25)).alloc (.cells #[.int .i64 2, .int .i64 0, .slice none 0 0, .int .i64 9, .int .i64 0, .slice (some ⟨u.heap.size + 1, 0, none⟩) 2 2] 25) = X at *
                        refine (dcmd_any W7.heap.size (some ⟨vb, vo, none⟩) vn vc m.vars ⟨⟨co, cn, cA, cl, cc⟩, ⟨some ⟨g6, 0, none⟩, tn + 1, cap6⟩⟩ { c with sets := c.sets ++ [⟨(q : Int), true, .mk 0 0 []⟩] } false X HrmX.out.1 (by omega) HRX.out (HrmX.out.2.1.more (by omega))).mono ?_
                        rintro e x1 ⟨rfl, hbx1⟩
                        have hzx1 := hbx1.size
                        rw [Hlaw1.out]
                        have n0 : x1.cell? ⟨N, 0, none⟩ = some (.slice (some ⟨vb, vo, none⟩) vn vc) := blk ((hbx1.block N (by omega)).trans HmX.out) (i := 0) rfl
                        have a0 : x1.cell? ⟨u.heap.size, 0, none⟩ = some (.int .i64 8) := blk ((hbx1.block _ (by omega)).trans Hg0.out) (i := 0) rfl
                        have a1 : x1.cell? ⟨u.heap.size, 1, none⟩ = some (.int .i64 0) := blk ((hbx1.block _ (by omega)).trans Hg0.out) (i := 1) rfl
                        have a2 : x1.cell? ⟨u.heap.size, 2, none⟩ = some (.slice (some ⟨u.heap.size + 1 + 1, 0, none⟩) 2 2) := blk ((hbx1.block _ (by omega)).trans Hg0.out) (i := 2) rfl
                        have a3 : x1.cell? ⟨u.heap.size, 3, none⟩ = some (.slice tA tn tc) := blk ((hbx1.block _ (by omega)).trans Hg0.out) (i := 3) rfl
                        have HrmX1 := hide (HrmX.out.below (hbx1.mono (by omega)))
                        have HgX1 := hide (HgX.out.below (hbx1.mono (by omega)))
                        have HbX1 := hide (HbX.out.trans (hbx1.mono (by omega)))
                        have hwe : (want == want) = true := by simp
                        clear hbx1
                        go_wp2_with fail
                        clear n0 a0 a1 a2 a3
                        refine (dcmd_any (u.heap.size + 3) (some ⟨vb, vo, none⟩) vn vc m.vars ⟨⟨8, 0, some ⟨u.heap.size + 1 + 1, 0, none⟩, 2, 2⟩, ⟨tA, tn, tc⟩⟩ { c with guard := gT (q : Int) } false x1 HrmX1.out.1 (by omega) HgX1.out (HrmX1.out.2.1.more (by omega))).mono ?_
                        rintro e x2 ⟨rfl, hbx2⟩
                        have hzx2 := hbx2.size
                        rw [Hlaw2.out]
                        have HbX2 := hide (HbX1.out.trans (hbx2.mono (by omega)))
                        clear hbx2
                        go_wp2_with fail
                        refine (awake_any _).mono ?_
                        rintro e x3 ⟨rfl, hbx3⟩
                        have HbX3 := hide (HbX2.out.trans (hbx3.mono (by omega)))
                        clear hbx3
                        go_wp2_with fail
                        go_ret
                        exact ⟨rfl, by rw [hN]; exact HbX3.out⟩
                    · rw [if_pos (by simp)] at Hlaw2
                      go_wp2_with fail
                      clear l0 l1 l2 l3 e0 e3 gg a0 a1 a2 a3
                      generalize ((u.alloc (.cells #[.int .i64 8, .int .i64 0, .slice (some ⟨u.heap.size + 1 + 1, 0, none⟩) 2 2, .slice tA tn tc] 31)).alloc (.cells #[.int .i64 4, .int .i64 (q : Int), .slice none 0 0, .int .i64 4, .int .i64 (q : Int), .slice none 0 0] 25)).alloc (.cells #[.int .i64 2, .int .i64 0, .slice none 0 0, .int .i64 9, .int .i64 0, .slice (some ⟨u.heap.size + 1, 0, none⟩) 2 2] 25) = X at *
                      refine (dcmd_any W7.heap.size (some ⟨vb, vo, none⟩) vn vc m.vars ⟨⟨co, cn, cA, cl, cc⟩, ⟨some ⟨g6, 0, none⟩, tn + 1, cap6⟩⟩ { c with sets := c.sets ++ [⟨(q : Int), true, .mk 0 0 []⟩] } true X HrmX.out.1 (by omega) HRX.out (HrmX.out.2.1.more (by omega))).mono ?_
                      rintro e x1 ⟨rfl, hbx1⟩
                      have hzx1 := hbx1.size
                      rw [Hlaw1.out]
                      have n0 : x1.cell? ⟨N, 0, none⟩ = some (.slice (some ⟨vb, vo, none⟩) vn vc) := blk ((hbx1.block N (by omega)).trans HmX.out) (i := 0) rfl
                      have a0 : x1.cell? ⟨u.heap.size, 0, none⟩ = some (.int .i64 8) := blk ((hbx1.block _ (by omega)).trans Hg0.out) (i := 0) rfl
                      have a1 : x1.cell? ⟨u.heap.size, 1, none⟩ = some (.int .i64 0) := blk ((hbx1.block _ (by omega)).trans Hg0.out) (i := 1) rfl
                      have a2 : x1.cell? ⟨u.heap.size, 2, none⟩ = some (.slice (some ⟨u.heap.size + 1 + 1, 0, none⟩) 2 2) := blk ((hbx1.block _ (by omega)).trans Hg0.out) (i := 2) rfl
                      have a3 : x1.cell? ⟨u.heap.size, 3, none⟩ = some (.slice tA tn tc) := blk ((hbx1.block _ (by omega)).trans Hg0.out) (i := 3) rfl
                      have HrmX1 := hide (HrmX.out.below (hbx1.mono (by omega)))
                      have HgX1 := hide (HgX.out.below (hbx1.mono (by omega)))
                      have HbX1 := hide (HbX.out.trans (hbx1.mono (by omega)))
                      have hwe : (want == want) = true := by simp
                      clear hbx1
                      go_wp2_with fail
                      clear n0 a0 a1 a2 a3
                      refine (dcmd_any (u.heap.size + 3) (some ⟨vb, vo, none⟩) vn vc m.vars ⟨⟨8, 0, some ⟨u.heap.size + 1 + 1, 0, none⟩, 2, 2⟩, ⟨tA, tn, tc⟩⟩ { c with guard := gT (q : Int) } true x1 HrmX1.out.1 (by omega) HgX1.out (HrmX1.out.2.1.more (by omega))).mono ?_
                      rintro e x2 ⟨rfl, hbx2⟩
                      have hzx2 := hbx2.size
                      rw [Hlaw2.out]
                      have HbX2 := hide (HbX1.out.trans (hbx2.mono (by omega)))
                      clear hbx2
                      go_wp2_with fail
                      refine (awake_any _).mono ?_
                      rintro e x3 ⟨rfl, hbx3⟩
                      have HbX3 := hide (HbX2.out.trans (hbx3.mono (by omega)))
                      clear hbx3
                      go_wp2_with fail
                      go_ret
                      exact ⟨rfl, by rw [hN]; exact HbX3.out⟩
    · have hcb : (cmdE m.vars c env != 0) = true := by simp [hc]
      clear hc
      go_wp2_with fail
      refine (awake_any _).mono ?_
      rintro e w4 ⟨rfl, hb4⟩
      go_wp2_with fail
      go_ret
      exact ⟨rfl, by rw [hN]; exact Hbw.out.trans (hb4.mono (by omega))⟩
end Go.Proofs.Ytddbplgcglgloaa
