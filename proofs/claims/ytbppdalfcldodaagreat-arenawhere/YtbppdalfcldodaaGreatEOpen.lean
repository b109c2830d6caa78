/- An expression that came in, opened: its cells hold a tree. -/
import Derived.Test.YtbppdalfcldodaaGreatProg
import Derived.Test.YtbppdalfcldodaaGreatEWords
import Derived.Deep.Slices
import Derived.ChangeSame
import Derived.KernelRfl
import Derived.ProofKit
set_option maxRecDepth 100000
namespace Go.Proofs.YtbppdalfcldodaaGreat.Ex
open Go.RowKit Go.WideShapes Go.ChangeShapes Go.Deep

instance : Inhabited T := ⟨.mk 0 0 []⟩
theorem cells24 : Tryz.prog.cellsOf 25 = 3 := by kernel_rfl
theorem cells22 : Tryz.prog.cellsOf 23 = 1 := by kernel_rfl
theorem cells3 : Tryz.prog.cellsOf 3 = 1 := by kernel_rfl

section
variable {H : Type} {enc : TypeId × Value → H} {w : World} {base : Nat} {spare : Nat → Bool} {held : Bool}
theorem open_exprC : ∀ (N fuel : Nat), fuel ≤ N → ∀ (cs : List Value) (x : DataW H × List MemPlace), DataW.trod enc Tryz.prog w base spare held fuel 25 cs = some x →
    ∃ op n A len cap t, cs = [.int .i64 op, .int .i64 n, .slice A len cap] ∧ RE w w.heap.size (N + 1) op n A len cap t := by
  intro N
  induction N with
  | zero =>
    intro fuel hN cs x h
    obtain ⟨ys, m, hm, _⟩ := DataW.trod_struct Tryz.underlying25 h
    omega
  | succ N ih =>
    intro fuel hN cs x h
    obtain ⟨ys, m, hm, _, hcl, hyl, hf⟩ := DataW.trod_struct Tryz.underlying25 h
    rw [cells24] at hcl
    match cs, hcl with
    | [v0, v1, v2], _ =>
      match ys, hyl with
      | [y0, y1, y2], _ =>
        have g0 := hf 0 _ rfl
        have g1 := hf 1 _ rfl
        have g2 := hf 2 _ rfl
        simp [cells3, cells22] at g0 g1 g2
        obtain ⟨op, e0, _, _⟩ := DataW.trod_int Tryz.underlying3 g0
        obtain ⟨n, e1, _, _⟩ := DataW.trod_int Tryz.underlying3 g1
        injection e0 with e0
        injection e1 with e1
        subst e0; subst e1
        rcases DataW.trod_slice Tryz.underlying23 g2 with ⟨hcs, _⟩ | ⟨a, len, cap, elems, rest, q, hq, hcs, _, _, hl, hcm, hlen, hel, _, _⟩
        · injection hcs with hcs
          subst hcs
          exact ⟨op, n, none, 0, 0, .mk op n [], rfl, rfl, rfl, rfl, Nat.le_refl _, by unfold maxLen; omega, fun h => absurd h (by omega)⟩
        · injection hcs with hcs
          subst hcs
          have each : ∀ i, i < len → ∃ p : T × Int × Int × Option Addr × Nat × Nat, a.add (i * 3) = ⟨(a.add (i * 3)).block, (a.add (i * 3)).off, none⟩ ∧ (a.add (i * 3)).block < w.heap.size ∧ CellE w (a.add (i * 3)).block (a.add (i * 3)).off p.2.1 p.2.2.1 p.2.2.2.1 p.2.2.2.2.1 p.2.2.2.2.2 ∧ RE w w.heap.size (N + 1) p.2.1 p.2.2.1 p.2.2.2.1 p.2.2.2.2.1 p.2.2.2.2.2 p.1 := by
            intro i hi
            have hb := hel i hi
            rw [cells24, List.getElem?_eq_getElem (by omega)] at hb
            obtain ⟨cs', hc', ht'⟩ := Option.bind_eq_some_iff.1 hb
            obtain ⟨op2, n2, A2, l2, c2, t2, hcs', hre⟩ := ih q (by omega) cs' _ ht'
            subst hcs'
            obtain ⟨_, _, hat⟩ := World.cells?_some hc'
            have k0 := hat 0 (by omega)
            have k1 := hat 1 (by omega)
            have k2 := hat 2 (by omega)
            generalize a.add (i * 3) = b at *
            obtain ⟨bb, off, spot⟩ := b
            have hspot : spot = none := by simpa [Addr.add] using World.cell?_spot (show w.cell? ((⟨bb, off, spot⟩ : Addr).add 0) = some (.int .i64 op2) from k0)
            subst hspot
            simp [Addr.add] at k0 k1 k2
            refine ⟨(t2, op2, n2, A2, l2, c2), rfl, ?_, ⟨k0, k1, k2⟩, hre⟩
            show bb < w.heap.size
            rcases Nat.lt_or_ge bb w.heap.size with hh | hh
            · exact hh
            · simp [World.cell?, Array.getElem?_eq_none hh] at k0
          obtain ⟨f, hfv⟩ := choose_lt each
          refine ⟨op, n, some a, len, cap, .mk op n ((List.range len).map fun i => (f i).1), rfl, rfl, rfl, by simp [T.kids], hl, hcm, fun h0 => ?_⟩
          have ha := (hfv 0 h0).1
          have ha0 : a.add (0 * 3) = a := by simp [Addr.add]
          rw [ha0] at ha
          refine ⟨a.block, a.off, by rw [← ha], ?_, fun k u hk => ?_⟩
          · have := (hfv 0 h0).2.1
            rwa [ha0] at this
          · simp only [T.kids] at hk
            rw [List.getElem?_map] at hk
            obtain ⟨i, hi, rfl⟩ := Option.map_eq_some_iff.1 hk
            obtain ⟨hlt, e⟩ := List.getElem?_eq_some_iff.1 hi
            have hkn : k < len := by simpa using hlt
            have hik : i = k := by rw [← e]; simp
            subst hik
            obtain ⟨_, _, hce, hre⟩ := hfv i hkn
            have hadd : (a.add (i * 3)).block = a.block ∧ (a.add (i * 3)).off = a.off + i * 3 := by
              unfold Addr.add
              by_cases h5 : i * 3 = 0
              · simp [h5]
              · simp [h5]
            rw [hadd.1, hadd.2] at hce
            exact ⟨_, _, _, _, _, hce, hre⟩

theorem open_expr {r : Reach} {b0 : Nat} {v0 : Value} {d : DataW H} {p : List MemPlace} (hv : Value.okWide Tryz.prog w r b0 25 v0) (h : DataW.Trod enc Tryz.prog w base spare held 25 v0 d p) :
    ∃ (op n : Int) (A : Option Addr) (len cap : Nat) (t : T) (N : Nat), v0 = .agg #[.int .i64 op, .int .i64 n, .slice A len cap] ∧ RE w w.heap.size N op n A len cap t := by
  obtain ⟨cs, rfl, hsz⟩ := okWide_struct Tryz.underlying25 hv
  obtain ⟨fuel, hf⟩ := h
  obtain ⟨op, n, A, len, cap, t, hcs, hre⟩ := open_exprC fuel fuel (Nat.le_refl _) _ _ hf
  refine ⟨op, n, A, len, cap, t, fuel + 1, ?_, hre⟩
  obtain ⟨l⟩ := cs
  simp [Value.cells] at hcs
  rw [hcs]
end
end Go.Proofs.YtbppdalfcldodaaGreat.Ex
