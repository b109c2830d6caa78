/- ShowForms: the program's texts are the reference's. -/
import Derived.Test.YtjpphjmehgflpaaGreatDoorHFormsA
namespace Go.Proofs.YtjpphjmehgflpaaGreatDoor
open Go.RowKit Ex
open Go.Sort (grow)
set_option linter.unusedSimpArgs false
set_option linter.unusedVariables false

def fM (te : T) (c : CT) : MT := ⟨[], te, .mk 0 0 [], [c], [], [], [], []⟩
def fX (fo fn : Int) (fA : Option Addr) (fl fc g : Nat) : M8 := ⟨⟨none, 0, 0⟩, ⟨fo, fn, fA, fl, fc⟩, ⟨0, 0, none, 0, 0⟩, ⟨some ⟨g, 0, none⟩, 1, 1⟩, ⟨none, 0, 0⟩, ⟨none, 0, 0⟩, ⟨none, 0, 0⟩, ⟨none, 0, 0⟩⟩
theorem f_rm {w : World} {B g : Nat} {fo fn : Int} {fA : Option Addr} {fl fc : Nat} {te : T} {go gn : Int} {gA : Option Addr} {gl gc : Nat} {rA : Option Addr} {rn rc : Nat} {c : CT} (hg : g < B) (h : w.heap[g]? = some (.cells #[.int .i64 go, .int .i64 gn, .slice gA gl gc, .slice rA rn rc] 31 (0, 0))) (he : EX w B ⟨fo, fn, fA, fl, fc⟩ te) (hc : RC w B ⟨⟨go, gn, gA, gl, gc⟩, ⟨rA, rn, rc⟩⟩ c) : RM w B (fX fo fn fA fl fc g) (fM te c) :=
  ⟨⟨Nat.zero_le _, Nat.le_refl _, Nat.zero_le _, fun v hv => by cases hv⟩, ⟨rfl, fun h => absurd h (Nat.lt_irrefl _)⟩, he, ⟨1, RE.leaf w B 0 0 0⟩, ⟨rfl, Nat.le_refl _, by show 1 ≤ maxLen; unfold maxLen; omega, fun _ => ⟨g, 0, rfl, hg, fun k x hx => by
    match k, hx with
    | 0, hx =>
      simp [fM] at hx; subst hx
      exact ⟨⟨⟨go, gn, gA, gl, gc⟩, ⟨by rw [Lib.cell_of_heap h]; rfl, by rw [Lib.cell_of_heap h]; rfl, by rw [Lib.cell_of_heap h]; rfl⟩, hc.1⟩, ⟨rA, rn, rc⟩, by rw [Lib.cell_of_heap h]; rfl, hc.2⟩
    | k + 1, hx => simp [fM] at hx⟩, fun h => by cases h⟩, rows_nil _ _ _ _, rows_nil _ _ _ _, rows_nil _ _ _ _, rows_nil _ _ _ _⟩
theorem three_blk (w : World) (X Y Z : Array Value) : (((w.alloc (.cells X 28)).alloc (.cells Y 25)).alloc (.cells Z 31)).heap[w.heap.size]? = some (.cells X 28 (0, 0)) ∧ (((w.alloc (.cells X 28)).alloc (.cells Y 25)).alloc (.cells Z 31)).heap[w.heap.size + 1]? = some (.cells Y 25 (0, 0)) ∧ (((w.alloc (.cells X 28)).alloc (.cells Y 25)).alloc (.cells Z 31)).heap[w.heap.size + 2]? = some (.cells Z 31 (0, 0)) ∧ Below w.heap.size w (((w.alloc (.cells X 28)).alloc (.cells Y 25)).alloc (.cells Z 31)) ∧ w.heap.size + 3 ≤ (((w.alloc (.cells X 28)).alloc (.cells Y 25)).alloc (.cells Z 31)).heap.size := by
  refine ⟨?_, ?_, ?_, (((Below.refl _ _).alloc (Nat.le_refl _) _).alloc (by simp only [World.size_alloc]; omega) _).alloc (by simp only [World.size_alloc]; omega) _, by simp only [World.size_alloc]; omega⟩
  · rw [Lib.alloc_old _ _ _ (by simp only [World.size_alloc]; omega), Lib.alloc_old _ _ _ (by simp only [World.size_alloc]; omega)]
    exact heap_alloc_new _ _
  · rw [Lib.alloc_old _ _ _ (by simp only [World.size_alloc]; omega), ← show (w.alloc (.cells X 28)).heap.size = w.heap.size + 1 by simp only [World.size_alloc]]
    exact heap_alloc_new _ _
  · rw [← show ((w.alloc (.cells X 28)).alloc (.cells Y 25)).heap.size = w.heap.size + 2 by simp only [World.size_alloc]]
    exact heap_alloc_new _ _
def FJ (X : Value) (hm hd : Int) (E Cv : Value) (Dv : Nat → Value) (C : Array Value) (j : Nat) (x : Value) (w : World) : Prop := match j with
  | 0 => x = X
  | 1 => x = .int .i64 hm
  | 2 => x = E
  | 3 => x = Cv
  | 4 => ∃ g, x = .slice (some ⟨g, 0, none⟩) 1 1 ∧ w.heap[g]? = some (.cells C 31 (0, 0))
  | 5 => ∃ g, x = Dv g ∧ w.heap[g]? = some (.cells C 31 (0, 0))
  | 6 => x = .int .i64 hd
  | 7 => x = .int .i64 (hm + hd)
  | _ => True
theorem fj_mono {X : Value} {hm hd : Int} {E Cv : Value} {Dv : Nat → Value} {C : Array Value} : ∀ j x w w', FJ X hm hd E Cv Dv C j x w → Below w.heap.size w w' → FJ X hm hd E Cv Dv C j x w' := by
  intro j x w w' h hb
  match j, h with
  | 0, h => exact h
  | 1, h => exact h
  | 2, h => exact h
  | 3, h => exact h
  | 4, h => obtain ⟨g, e, hg⟩ := h; exact ⟨g, e, (hb.block g (Array.getElem?_eq_some_iff.1 hg).1).trans hg⟩
  | 5, h => obtain ⟨g, e, hg⟩ := h; exact ⟨g, e, (hb.block g (Array.getElem?_eq_some_iff.1 hg).1).trans hg⟩
  | 6, h => exact h
  | 7, h => exact h
  | _ + 8, h => trivial
set_option maxRecDepth 100000 in
set_option maxHeartbeats 4000000 in
theorem st_l28 {a : Act} {w : World} {K : Act → World → Prop} {Q : Exit → Act → World → Prop} {d ty : Nat} {pos : String} {af : Array Edge} {t b : Nat} {vA : Option Addr} {vn vc : Nat} {io im : Int} {iA : Option Addr} {il ic : Nat} {jo jm : Int} {jA : Option Addr} {jl jc : Nat} {eA : Option Addr} {en ec : Nat} {sA : Option Addr} {sn sc : Nat} {aA : Option Addr} {an ac : Nat} {nA : Option Addr} {nn nc : Nat} {pA : Option Addr} {pn pc : Nat} (he : a.eval (.tmp t) = .pointer (some ⟨b, 0, none⟩)) (hc : w.heap[b]? = some (.cells #[.slice vA vn vc, .int .i64 io, .int .i64 im, .slice iA il ic, .int .i64 jo, .int .i64 jm, .slice jA jl jc, .slice eA en ec, .slice sA sn sc, .slice aA an ac, .slice nA nn nc, .slice pA pn pc] 28 (0, 0))) (hK : K (a.put (some d) (.agg #[.slice vA vn vc, .int .i64 io, .int .i64 im, .slice iA il ic, .int .i64 jo, .int .i64 jm, .slice jA jl jc, .slice eA en ec, .slice sA sn sc, .slice aA an ac, .slice nA nn nc, .slice pA pn pc])) w) : Oper.wp Tryz.prog ⟨some d, .load 28 (.tmp t), ty, pos, af, none⟩ a w K Q := by
  have k0 : w.cell? ⟨b, 0, none⟩ = some (.slice vA vn vc) := by rw [Lib.cell_of_heap hc]; rfl
  have k1 : w.cell? ⟨b, 1, none⟩ = some (.int .i64 io) := by rw [Lib.cell_of_heap hc]; rfl
  have k2 : w.cell? ⟨b, 2, none⟩ = some (.int .i64 im) := by rw [Lib.cell_of_heap hc]; rfl
  have k3 : w.cell? ⟨b, 3, none⟩ = some (.slice iA il ic) := by rw [Lib.cell_of_heap hc]; rfl
  have k4 : w.cell? ⟨b, 4, none⟩ = some (.int .i64 jo) := by rw [Lib.cell_of_heap hc]; rfl
  have k5 : w.cell? ⟨b, 5, none⟩ = some (.int .i64 jm) := by rw [Lib.cell_of_heap hc]; rfl
  have k6 : w.cell? ⟨b, 6, none⟩ = some (.slice jA jl jc) := by rw [Lib.cell_of_heap hc]; rfl
  have k7 : w.cell? ⟨b, 7, none⟩ = some (.slice eA en ec) := by rw [Lib.cell_of_heap hc]; rfl
  have k8 : w.cell? ⟨b, 8, none⟩ = some (.slice sA sn sc) := by rw [Lib.cell_of_heap hc]; rfl
  have k9 : w.cell? ⟨b, 9, none⟩ = some (.slice aA an ac) := by rw [Lib.cell_of_heap hc]; rfl
  have k10 : w.cell? ⟨b, 10, none⟩ = some (.slice nA nn nc) := by rw [Lib.cell_of_heap hc]; rfl
  have k11 : w.cell? ⟨b, 11, none⟩ = some (.slice pA pn pc) := by rw [Lib.cell_of_heap hc]; rfl
  clear hc
  refine wp_val ?_ hK
  simp only [execOp, he]
  go_simp

end Go.Proofs.YtjpphjmehgflpaaGreatDoor
