/- A slice of variables that came in, opened: its cells hold a list of variables. -/
import Derived.Test.YtbppdalfcldodaaGreatProg
import Derived.Test.YtbppdalfcldodaaGreatGLeaf
import Derived.Deep.Slices
import Derived.ChangeSame
import Derived.KernelRfl
import Derived.ProofKit
set_option maxRecDepth 100000
namespace Go.Proofs.YtbppdalfcldodaaGreat.Dom
open Go.RowKit Go.WideShapes Go.ChangeShapes Go.Deep

instance : Inhabited V := ⟨⟨ByteArray.empty, false, 0, 0, 0⟩⟩
theorem cells9 : Tryz.prog.cellsOf 9 = 1 := by kernel_rfl
theorem cells4 : Tryz.prog.cellsOf 4 = 1 := by kernel_rfl
theorem cells3 : Tryz.prog.cellsOf 3 = 1 := by kernel_rfl

section
variable {H : Type} {enc : TypeId × Value → H} {w : World} {base : Nat} {spare : Nat → Bool} {held : Bool}
theorem open_var {fuel : Nat} {a : Addr} {cs : List Value} {x : DataW H × List MemPlace} (hc : w.cells? base a 5 = some cs) (h : DataW.trod enc Tryz.prog w base spare held fuel 103 cs = some x) :
    ∃ v : V, v.nm.size ≤ maxLen ∧ a = ⟨a.block, a.off, none⟩ ∧ a.block < w.heap.size ∧ CellV w a.block a.off v := by
  obtain ⟨_, hl, hat⟩ := World.cells?_some hc
  obtain ⟨ys, n, _, _, _, hyl, hf⟩ := DataW.trod_struct Tryz.underlying103 h
  match cs, hl with
  | [c0, c1, c2, c3, c4], _ =>
    match ys, hyl with
    | [y0, y1, y2, y3, y4], _ =>
      have g0 := hf 0 _ rfl
      have g1 := hf 1 _ rfl
      have g2 := hf 2 _ rfl
      have g3 := hf 3 _ rfl
      have g4 := hf 4 _ rfl
      simp [cells9, cells4, cells3] at g0 g1 g2 g3 g4
      obtain ⟨s, e0, _, hs⟩ := DataW.trod_string Tryz.underlying9 g0
      obtain ⟨en, e1, _⟩ := DataW.trod_bool Tryz.underlying4 g1
      obtain ⟨z2, e2, _, _⟩ := DataW.trod_int Tryz.underlying3 g2
      obtain ⟨z3, e3, _, _⟩ := DataW.trod_int Tryz.underlying3 g3
      obtain ⟨z4, e4, _, _⟩ := DataW.trod_int Tryz.underlying3 g4
      injection e0 with e0; injection e1 with e1; injection e2 with e2; injection e3 with e3; injection e4 with e4
      subst e0; subst e1; subst e2; subst e3; subst e4
      have k0 := hat 0 (by omega)
      have k1 := hat 1 (by omega)
      have k2 := hat 2 (by omega)
      have k3 := hat 3 (by omega)
      have k4 := hat 4 (by omega)
      obtain ⟨b, off, spot⟩ := a
      have hspot : spot = none := by simpa [Addr.add] using World.cell?_spot (show w.cell? ((⟨b, off, spot⟩ : Addr).add 0) = some (.string s) from k0)
      subst hspot
      refine ⟨⟨s, en, z2, z3, z4⟩, hs, rfl, ?_, ?_⟩
      · have h0 : w.cell? ⟨b, off, none⟩ = some (.string s) := by simpa [Addr.add] using k0
        show b < w.heap.size
        rcases Nat.lt_or_ge b w.heap.size with hh | hh
        · exact hh
        · simp [World.cell?, Array.getElem?_eq_none hh] at h0
      · simp [Addr.add] at k0 k1 k2 k3 k4
        exact ⟨k0, k1, k2, k3, k4⟩

end
end Go.Proofs.YtbppdalfcldodaaGreat.Dom
