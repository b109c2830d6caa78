/- The box of a game that is made, its rows and its owners: six orders, one frame. -/
import Derived.Test.YtdcdpknlloffjaaGThinM
import Derived.Maps.AppendAt
namespace Go.Proofs.Ytdcdpknlloffjaa.Gr
open Go.RowKit
set_option linter.unusedSimpArgs false
set_option linter.unusedVariables false

theorem Onl.alloc {g : Nat} {a w : World} (h : Onl g a w) (o : Obj) : Onl g a (w.alloc o) := h.trans ⟨rfl, rfl, rfl, by simp, fun k hk _ => Below.heap_alloc _ _ _ hk⟩
abbrev RowsO (n : Nat) : Obj := .cells (madeCells #[.slice none 0 0] n) 22
abbrev ZeroO : Obj := .cells #[.slice none 0 0, .slice none 0 0] 25
abbrev BoxO (O : Option Addr) (n c bn : Nat) : Obj := .cells #[.slice O n c, .slice (some ⟨bn, 0, none⟩) n n] 25
theorem size_al (w : World) (o : Obj) : (w.alloc o).heap.size = w.heap.size + 1 := by simp
theorem new_at {w : World} {o : Obj} {k : Nat} (h : w.heap.size = k) : (w.alloc o).heap[k]? = some o := by rw [← h]; exact heap_alloc_new w o
theorem row_at {w : World} {k n : Nat} (h : w.heap.size = k) : (w.alloc (RowsO n)).rowIs k 22 n (fun _ => .slice none 0 0) := by rw [← h]; exact World.rowIs_made w _ n 22
theorem box_set {w : World} {bo : Nat} {a b x y : Value} {t : TypeId} (h : w.heap[bo]? = some (.cells #[x, y] t (0, 0))) : ((w.setCell ⟨bo, 0, none⟩ a).setCell ⟨bo, 1, none⟩ b).heap[bo]? = some (.cells #[a, b] t (0, 0)) := by
  simp [World.setCell, Array.getElem?_modify, h]
theorem made_of {X w5 wF : World} {lo bo bn n c : Nat} (hlo : lo ≤ X.heap.size) {O : Option Addr} {own : List Int} (hro : Hid (RI w5 w5.heap.size ⟨O, n, c⟩ own)) (hfar : Hid (∀ b o s, O = some ⟨b, o, s⟩ → X.heap.size ≤ b ∧ b < w5.heap.size)) (hon : Onl bo w5 wF)
    (hbox : wF.heap[bo]? = some (BoxO O n c bn)) (ne : bo ≠ bn) (hbo : bo < X.heap.size ∨ w5.heap.size ≤ bo) (hbn : bn < X.heap.size ∨ w5.heap.size ≤ bn) (hrow : wF.rowIs bn 22 n (fun _ => .slice none 0 0)) : Made wF lo n bo bn O c own :=
  ⟨by simp [World.cell?, hbox], by simp [World.cell?, hbox], ne, (Array.getElem?_eq_some_iff.1 hbox).1, hrow, Onl.ri hro.out hon (fun b o p e => by have := hfar.out b o p e; omega), fun b o p e => by have := hfar.out b o p e; omega⟩
section
variable {w2 w5 : World} {n c : Nat} {O : Option Addr} {own : List Int}
theorem made1 (hro : Hid (RI w5 w5.heap.size ⟨O, n, c⟩ own)) (hfar : Hid (∀ b o s, O = some ⟨b, o, s⟩ → w2.drew.heap.size ≤ b ∧ b < w5.heap.size)) : Made ((w5.alloc (RowsO n)).alloc (BoxO O n c w5.heap.size)) w2.heap.size n (w5.heap.size + 1) w5.heap.size O c own :=
  made_of (X := w2.drew) (Nat.le_refl _) hro hfar (((Onl.refl _ _).alloc _).alloc _) (new_at (size_al _ _)) (by omega) (.inr (by omega)) (.inr (Nat.le_refl _)) ((row_at rfl).alloc _)
theorem made2 (hro : Hid (RI w5 w5.heap.size ⟨O, n, c⟩ own)) (hfar : Hid (∀ b o s, O = some ⟨b, o, s⟩ → w2.drew.heap.size ≤ b ∧ b < w5.heap.size)) : Made ((w5.alloc (BoxO O n c (w5.heap.size + 1))).alloc (RowsO n)) w2.heap.size n w5.heap.size (w5.heap.size + 1) O c own :=
  made_of (X := w2.drew) (Nat.le_refl _) hro hfar (((Onl.refl _ _).alloc _).alloc _) ((Below.heap_alloc _ _ _ (by rw [size_al]; omega)).trans (new_at rfl)) (by omega) (.inr (by omega)) (.inr (by omega)) (row_at (size_al _ _))
theorem made3 (hro : Hid (RI w5 w5.heap.size ⟨O, n, c⟩ own)) (hfar : Hid (∀ b o s, O = some ⟨b, o, s⟩ → (w2.alloc (RowsO n)).drew.heap.size ≤ b ∧ b < w5.heap.size)) (hb : Hid (Below (w2.alloc (RowsO n)).drew.heap.size (w2.alloc (RowsO n)).drew w5)) : Made (w5.alloc (BoxO O n c w2.heap.size)) w2.heap.size n w5.heap.size w2.heap.size O c own := by
  have hz := hb.out.size
  have e : (w2.alloc (RowsO n)).drew.heap.size = w2.heap.size + 1 := size_al _ _
  have hr : (w2.alloc (RowsO n)).drew.rowIs w2.heap.size 22 n (fun _ => .slice none 0 0) := row_at rfl
  exact made_of (by omega) hro hfar ((Onl.refl _ _).alloc _) (new_at rfl) (by omega) (.inr (by omega)) (.inl (by omega)) ((hr.of_block (hb.out.block _ (by omega))).alloc _)
theorem made4 (hro : Hid (RI w5 w5.heap.size ⟨O, n, c⟩ own)) (hfar : Hid (∀ b o s, O = some ⟨b, o, s⟩ → ((w2.alloc (RowsO n)).alloc ZeroO).drew.heap.size ≤ b ∧ b < w5.heap.size)) (hb : Hid (Below ((w2.alloc (RowsO n)).alloc ZeroO).drew.heap.size ((w2.alloc (RowsO n)).alloc ZeroO).drew w5)) :
    Made ((w5.setCell ⟨w2.heap.size + 1, 0, none⟩ (.slice O n c)).setCell ⟨w2.heap.size + 1, 1, none⟩ (.slice (some ⟨w2.heap.size, 0, none⟩) n n)) w2.heap.size n (w2.heap.size + 1) w2.heap.size O c own := by
  have hz := hb.out.size
  have e : ((w2.alloc (RowsO n)).alloc ZeroO).drew.heap.size = w2.heap.size + 2 := by rw [show ((w2.alloc (RowsO n)).alloc ZeroO).drew.heap.size = ((w2.alloc (RowsO n)).alloc ZeroO).heap.size from rfl, size_al, size_al]
  have hr : ((w2.alloc (RowsO n)).alloc ZeroO).drew.rowIs w2.heap.size 22 n (fun _ => .slice none 0 0) := (row_at rfl).alloc _
  have hx : ((w2.alloc (RowsO n)).alloc ZeroO).drew.heap[w2.heap.size + 1]? = some ZeroO := new_at (size_al _ _)
  exact made_of (by omega) hro hfar (((Onl.refl _ _).set _ _).set _ _) (box_set ((hb.out.block _ (by omega)).trans hx)) (by omega) (.inl (by omega)) (.inl (by omega)) (((hr.of_block (hb.out.block _ (by omega))).setOther (by show w2.heap.size ≠ w2.heap.size + 1; omega) _).setOther (by show w2.heap.size ≠ w2.heap.size + 1; omega) _)
theorem made5 (hro : Hid (RI w5 w5.heap.size ⟨O, n, c⟩ own)) (hfar : Hid (∀ b o s, O = some ⟨b, o, s⟩ → (w2.alloc ZeroO).drew.heap.size ≤ b ∧ b < w5.heap.size)) (hb : Hid (Below (w2.alloc ZeroO).drew.heap.size (w2.alloc ZeroO).drew w5)) :
    Made (((w5.setCell ⟨w2.heap.size, 0, none⟩ (.slice O n c)).setCell ⟨w2.heap.size, 1, none⟩ (.slice (some ⟨w5.heap.size, 0, none⟩) n n)).alloc (RowsO n)) w2.heap.size n w2.heap.size w5.heap.size O c own := by
  have hz := hb.out.size
  have e : (w2.alloc ZeroO).drew.heap.size = w2.heap.size + 1 := size_al _ _
  have hx : (w2.alloc ZeroO).drew.heap[w2.heap.size]? = some ZeroO := new_at rfl
  have hs : ((w5.setCell ⟨w2.heap.size, 0, none⟩ (.slice O n c)).setCell ⟨w2.heap.size, 1, none⟩ (.slice (some ⟨w5.heap.size, 0, none⟩) n n)).heap.size = w5.heap.size := by simp [World.setCell]
  exact made_of (by omega) hro hfar ((((Onl.refl _ _).set _ _).set _ _).alloc _) ((Below.heap_alloc _ _ _ (by rw [hs]; omega)).trans (box_set ((hb.out.block _ (by omega)).trans hx))) (by omega) (.inl (by omega)) (.inr (Nat.le_refl _)) (row_at hs)
theorem made6 (hro : Hid (RI w5 w5.heap.size ⟨O, n, c⟩ own)) (hfar : Hid (∀ b o s, O = some ⟨b, o, s⟩ → ((w2.alloc ZeroO).alloc (RowsO n)).drew.heap.size ≤ b ∧ b < w5.heap.size)) (hb : Hid (Below ((w2.alloc ZeroO).alloc (RowsO n)).drew.heap.size ((w2.alloc ZeroO).alloc (RowsO n)).drew w5)) :
    Made ((w5.setCell ⟨w2.heap.size, 0, none⟩ (.slice O n c)).setCell ⟨w2.heap.size, 1, none⟩ (.slice (some ⟨w2.heap.size + 1, 0, none⟩) n n)) w2.heap.size n w2.heap.size (w2.heap.size + 1) O c own := by
  have hz := hb.out.size
  have e : ((w2.alloc ZeroO).alloc (RowsO n)).drew.heap.size = w2.heap.size + 2 := by rw [show ((w2.alloc ZeroO).alloc (RowsO n)).drew.heap.size = ((w2.alloc ZeroO).alloc (RowsO n)).heap.size from rfl, size_al, size_al]
  have hr : ((w2.alloc ZeroO).alloc (RowsO n)).drew.rowIs (w2.heap.size + 1) 22 n (fun _ => .slice none 0 0) := row_at (size_al _ _)
  have hx : ((w2.alloc ZeroO).alloc (RowsO n)).drew.heap[w2.heap.size]? = some ZeroO := (Below.heap_alloc _ _ _ (by rw [size_al]; omega)).trans (new_at rfl)
  exact made_of (by omega) hro hfar (((Onl.refl _ _).set _ _).set _ _) (box_set ((hb.out.block _ (by omega)).trans hx)) (by omega) (.inl (by omega)) (.inl (by omega)) (((hr.of_block (hb.out.block _ (by omega))).setOther (by show w2.heap.size + 1 ≠ w2.heap.size; omega) _).setOther (by show w2.heap.size + 1 ≠ w2.heap.size; omega) _)
end
theorem thin_cell {w w7 : World} {base e size n o i : Nat} {v : Value} {xs : List Value} (hown : Hid (w.ownsRow base e size v n xs)) (hg : w.grownBy w7 v.ownBlock) (h1 : o < base) (h2 : o < w.heap.size) : w7.cell? ⟨o, i, none⟩ = w.cell? ⟨o, i, none⟩ :=
  hg.cell_far ⟨o, i, none⟩ h2 (fun e => by have := (hown.out.lt o e.symm).1; omega)
theorem thin_row {w w7 : World} {base b n k : Nat} {f : Nat → Value} {ls : List (List Int)} {v : Value} (h : Hid (Nest w base b n f ls)) (hg : w.grownBy w7 v.ownBlock) (hk : k < n) (hv : Hid (f k = v)) : Hid (w7.rowIs b 22 n f) :=
  hide (h.out.row.of_block (hg.block b h.out.row.lt (fun e => h.out.far k hk (by rw [hv.out]; exact e.symm))))
theorem cells2 {w : World} {b : Nat} {x y a0 a1 : Value} (h0 : w.cell? ⟨b, 0, none⟩ = some x) (h1 : w.cell? ⟨b, 1, none⟩ = some y) :
    ((w.setCell ⟨b, 0, none⟩ a0).setCell ⟨b, 1, none⟩ a1).cell? ⟨b, 0, none⟩ = some a0 ∧ ((w.setCell ⟨b, 0, none⟩ a0).setCell ⟨b, 1, none⟩ a1).cell? ⟨b, 1, none⟩ = some a1 := by
  have e : (⟨b, 0, none⟩ : Addr) ≠ ⟨b, 1, none⟩ := by intro h; cases h
  refine ⟨?_, ?_⟩
  · exact (World.cell?_setCell_other _ _ _ _ (fun h => e h.symm)).trans (World.cell?_setCell_same _ _ _ h0)
  · exact World.cell?_setCell_same _ _ _ ((World.cell?_setCell_other _ _ _ _ e).trans h1)
theorem thin_end {wc wr : World} {lo n bo bn c rs : Nat} {O : Option Addr} {g : GT} {f : Nat → Value} {ls : List (List Int)} {a0 a1 : Value} (HM : Hid (Made wc lo n bo bn O c g.own)) (hne : Hid (Nest wr wc.heap.size bn n f ls)) (hon : Hid (Onl bn wc wr)) (hr : rs < lo) (hlo : lo ≤ bn) (hlc : lo ≤ wc.heap.size) (hm : n ≤ maxLen) :
    NewG lo ((wr.setCell ⟨rs, 0, none⟩ a0).setCell ⟨rs, 1, none⟩ a1) ⟨O, n, c⟩ ⟨some ⟨bn, 0, none⟩, n, n⟩ ⟨g.own, ls⟩ := by
  have h1 := Onl.ri HM.out.ri hon.out (fun b o p e => (HM.out.far b o p e).1)
  have hs : ((wr.setCell ⟨rs, 0, none⟩ a0).setCell ⟨rs, 1, none⟩ a1).heap.size = wr.heap.size := by simp [World.setCell]
  have h0 : NewG lo wr ⟨O, n, c⟩ ⟨some ⟨bn, 0, none⟩, n, n⟩ ⟨g.own, ls⟩ := fun w' hz hk =>
    ⟨⟨h1.1, h1.2.1, h1.2.2.1, fun hn => by
      obtain ⟨b, off, e, hb, hc⟩ := h1.2.2.2.1 hn
      exact ⟨b, off, e, Nat.lt_of_lt_of_le hb hz, fun k x hx => (World.cell?_of_block (w := wr) (hk b ((HM.out.far b off none e).2) hb)).trans (hc k x hx)⟩, h1.2.2.2.2⟩, hne.out.newR hlo hlc hm w' hz hk⟩
  exact h0.on (Nat.le_refl _) (by rw [hs]; exact Nat.le_refl _) (fun k hk _ => by rw [Below.heap_setCell _ _ _ _ (by show k ≠ rs; omega), Below.heap_setCell _ _ _ _ (by show k ≠ rs; omega)])
theorem step_append_new {ops : Array Oper} {o : Oper} {a : Act} {K : Act → World → Prop} {Q : Exit → Act → World → Prop} {E : Prop} {W X : World} {B n c : Nat} {A : Option Addr} {l : List Int} (hgd : o.guard = none) (s x : Operand)
    (ho : o.op = .call { callee := .builtin .append, args := #[s, x], argTypes := #[22, 22] }) (hs : a.eval s = .slice none 0 0) (hx : a.eval x = .slice A n c) (hr : RI W B ⟨A, n, c⟩ l) (hB : B ≤ W.heap.size) (hm : n ≤ 1000000) (hX : Below W.heap.size W X)
    (h : ∀ O c2 w', Hid (RI w' w'.heap.size ⟨O, n, c2⟩ l) → Hid (∀ b o s, O = some ⟨b, o, s⟩ → X.heap.size ≤ b ∧ b < w'.heap.size) → Hid (Below X.heap.size X w') → Hid (Below W.heap.size W w') → K (a.put o.dst (.slice O n c2)) w') :
    if Region.wanted o (yielded ops a.tmps) = true then Oper.wp Try.prog o a X K Q else E := by
  have hw : Region.wanted o (yielded ops a.tmps) = true := by simp [Region.wanted, hgd]
  rw [if_pos hw]
  obtain ⟨i0, hi0, hq0, hq1, hq2⟩ := info_parts info3
  have hl := hr.len
  simp only at hl
  have hrX := hr.below (hX.mono hB)
  cases A with
  | none =>
    have hc0 : c = 0 := hr.2.2.2.2 rfl
    have hn0 : n = 0 := by have := hr.2.1; simp only at this; omega
    subst hc0; subst hn0
    have hrun := run_append_owned_none (P := Try.prog) X X.heap.size 22 o.type 3 i0 1 Try.underlying22 hi0 (.slice none 0 0) 0 [] (World.ownsRow_nil _ _ _ _)
    have hnil : l = [] := List.eq_nil_of_length_eq_zero hl
    subst hnil
    unfold Oper.wp
    simp [execOp, ho, resolve, invoke, builtin, hs, hx, hrun, Result.andThen]
    exact h none 0 X (rows_nil _ _ _) (fun b o s e => by cases e) (Below.refl _ _) hX
  | some ad =>
    obtain ⟨v', w', hrun, h2, h3, _, h5⟩ := run_append_own_at (P := Try.prog) X X.heap.size 22 o.type 3 i0 _ 1 8 Try.underlying22 hi0 hq0 hq1 hq2 rfl (by omega) (.slice none 0 0) 0 [] (World.ownsRow_nil _ _ _ _) ad n c (ints l) (by simp [ints, hl]) (fun j u hu => ints_at (b := 0) (off := 0) hrX ad rfl j u hu) (ints_one l) (by unfold maxLen; omega) (by omega) (Nat.le_refl _)
    rw [Nat.zero_add, List.nil_append] at h2
    obtain ⟨O, c2, rfl⟩ := own_sl h2
    have hbX : Below X.heap.size X w' := (Below.refl _ _).grown h3 (Nat.le_refl _) (fun k hk => by simp [Value.ownBlock] at hk)
    unfold Oper.wp
    simp [execOp, ho, resolve, invoke, builtin, hs, hx, hrun, Result.andThen]
    exact h O c2 w' (own_ri h2) (own_blk h2) hbX (hX.trans (hbX.mono hX.size))
end Go.Proofs.Ytdcdpknlloffjaa.Gr
