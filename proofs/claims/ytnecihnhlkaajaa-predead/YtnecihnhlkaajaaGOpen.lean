/- Games and rows that came in, opened. -/
import Derived.Test.YtnecihnhlkaajaaGWords
import Derived.Deep.Slices
import Derived.WideShapes
import Derived.ChangeShapes
namespace Go.Proofs.Ytnecihnhlkaajaa.Gr
set_option maxRecDepth 100000
open Go.RowKit Go.WideShapes Go.ChangeShapes Go.Deep
set_option linter.unusedSimpArgs false
set_option linter.unusedVariables false

theorem cellsG : Try.prog.cellsOf 25 = 2 := by kernel_rfl
theorem cellsI : Try.prog.cellsOf 3 = 1 := by kernel_rfl
theorem cellsB : Try.prog.cellsOf 4 = 1 := by kernel_rfl
theorem cellsL : Try.prog.cellsOf 22 = 1 := by kernel_rfl
theorem cellsN : Try.prog.cellsOf 23 = 1 := by kernel_rfl
section
variable {H : Type} {enc : TypeId × Value → H} {w : World} {base : Nat} {spare : Nat → Bool} {held : Bool}
theorem cell_at {a : Addr} {cs : List Value} (hc : w.cells? base a 1 = some cs) : a = ⟨a.block, a.off, none⟩ ∧ a.block < w.heap.size ∧ ∃ v, cs = [v] ∧ w.cell? ⟨a.block, a.off, none⟩ = some v := by
  obtain ⟨_, hl, hat⟩ := World.cells?_some hc
  have h0 := hat 0 (by omega)
  obtain ⟨b, off, spot⟩ := a
  rw [List.getElem?_eq_getElem (by omega)] at h0
  have hspot : spot = none := by simpa [Addr.add] using World.cell?_spot (show w.cell? ((⟨b, off, spot⟩ : Addr).add 0) = some _ from h0)
  subst hspot
  match cs, hl with
  | [v], _ =>
    refine ⟨rfl, ?_, v, rfl, by simpa [Addr.add] using h0⟩
    show b < w.heap.size
    rcases Nat.lt_or_ge b w.heap.size with hh | hh
    · exact hh
    · simp [Addr.add, World.cell?, Array.getElem?_eq_none hh] at h0
theorem open_rows {α : Type} [Inhabited α] (P : World → Nat → Nat → Nat → α → Prop) {E TS : TypeId} (hu : Try.prog.underlying TS = some (.slice E)) (hsz : Try.prog.cellsOf E = 1)
    (elem : ∀ (fuel : Nat) (a : Addr) (cs : List Value) (x : DataW H × List MemPlace), w.cells? base a 1 = some cs → DataW.trod enc Try.prog w base spare held fuel E cs = some x → ∃ v : α, a = ⟨a.block, a.off, none⟩ ∧ a.block < w.heap.size ∧ P w w.heap.size a.block a.off v)
    {fuel : Nat} {cs : List Value} {x : DataW H × List MemPlace} (h : DataW.trod enc Try.prog w base spare held fuel TS cs = some x) : ∃ (s : SL) (l : List α), cs = [s.v] ∧ Rows P w w.heap.size s l := by
  rcases DataW.trod_slice hu h with ⟨hcs, _⟩ | ⟨a, len, cap, elems, rest, q, hq, hcs, _, _, hl, hcm, hlen, hel, _, _⟩
  · exact ⟨⟨none, 0, 0⟩, [], hcs, rfl, Nat.le_refl _, by show 0 ≤ maxLen; omega, fun h => absurd h (by show ¬ 0 < 0; omega), fun _ => rfl⟩
  · have each : ∀ i, i < len → ∃ v : α, a.add (i * 1) = ⟨(a.add (i * 1)).block, (a.add (i * 1)).off, none⟩ ∧ (a.add (i * 1)).block < w.heap.size ∧ P w w.heap.size (a.add (i * 1)).block (a.add (i * 1)).off v := by
      intro i hi
      have hb := hel i hi
      rw [hsz, List.getElem?_eq_getElem (by omega)] at hb
      obtain ⟨cs', hc', ht'⟩ := Option.bind_eq_some_iff.1 hb
      exact elem q _ cs' _ hc' ht'
    obtain ⟨f, hfv⟩ := choose_lt each
    refine ⟨⟨some a, len, cap⟩, (List.range len).map f, hcs, by simp, hl, hcm, fun h0 => ?_, fun h => by simp at h⟩
    have ha := (hfv 0 h0).1
    have ha0 : a.add (0 * 1) = a := by simp [Addr.add]
    rw [ha0] at ha
    refine ⟨a.block, a.off, by show some a = _; rw [← ha], ?_, fun k u hk => ?_⟩
    · have := (hfv 0 h0).2.1
      rwa [ha0] at this
    · rw [List.getElem?_map] at hk
      obtain ⟨i, hi, rfl⟩ := Option.map_eq_some_iff.1 hk
      obtain ⟨hlt, e⟩ := List.getElem?_eq_some_iff.1 hi
      have hkn : k < len := by simpa using hlt
      have hik : i = k := by rw [← e]; simp
      subst hik
      have hadd : (a.add (i * 1)).block = a.block ∧ (a.add (i * 1)).off = a.off + i := by
        unfold Addr.add
        by_cases h5 : i * 1 = 0
        · have : i = 0 := by omega
          simp [h5, this]
        · have h6 : ¬ i = 0 := by omega
          simp [h6]
      have := (hfv i hkn).2.2
      rw [hadd.1, hadd.2] at this
      exact this
theorem elem_int (fuel : Nat) (a : Addr) (cs : List Value) (x : DataW H × List MemPlace) (hc : w.cells? base a 1 = some cs) (h : DataW.trod enc Try.prog w base spare held fuel 3 cs = some x) : ∃ t : Int, a = ⟨a.block, a.off, none⟩ ∧ a.block < w.heap.size ∧ IntAt w w.heap.size a.block a.off t := by
  obtain ⟨h1, h2, v, rfl, h3⟩ := cell_at hc
  obtain ⟨z, e0, _, _⟩ := DataW.trod_int Try.underlying3 h
  injection e0 with e0
  subst e0
  exact ⟨z, h1, h2, h3⟩
theorem elem_bool (fuel : Nat) (a : Addr) (cs : List Value) (x : DataW H × List MemPlace) (hc : w.cells? base a 1 = some cs) (h : DataW.trod enc Try.prog w base spare held fuel 4 cs = some x) : ∃ t : Bool, a = ⟨a.block, a.off, none⟩ ∧ a.block < w.heap.size ∧ BoolAt w w.heap.size a.block a.off t := by
  obtain ⟨h1, h2, v, rfl, h3⟩ := cell_at hc
  obtain ⟨p, e0, _⟩ := DataW.trod_bool Try.underlying4 h
  injection e0 with e0
  subst e0
  exact ⟨p, h1, h2, h3⟩
theorem open_intsC {fuel : Nat} {cs : List Value} {x : DataW H × List MemPlace} (h : DataW.trod enc Try.prog w base spare held fuel 22 cs = some x) : ∃ (s : SL) (l : List Int), cs = [s.v] ∧ RI w w.heap.size s l := open_rows IntAt Try.underlying22 cellsI elem_int h
theorem elem_row (fuel : Nat) (a : Addr) (cs : List Value) (x : DataW H × List MemPlace) (hc : w.cells? base a 1 = some cs) (h : DataW.trod enc Try.prog w base spare held fuel 22 cs = some x) : ∃ t : List Int, a = ⟨a.block, a.off, none⟩ ∧ a.block < w.heap.size ∧ RowAt w w.heap.size a.block a.off t := by
  obtain ⟨h1, h2, v, rfl, h3⟩ := cell_at hc
  obtain ⟨s, l, e, hr⟩ := open_intsC h
  injection e with e
  subst e
  exact ⟨l, h1, h2, s, h3, hr⟩
theorem open_game {r : Reach} {b0 : Nat} {v0 : Value} {d : DataW H} {p : List MemPlace} (hv : Value.okWide Try.prog w r b0 25 v0) (h : DataW.Trod enc Try.prog w base spare held 25 v0 d p) : ∃ (OA : Option Addr) (on oc : Nat) (NA : Option Addr) (nn nc : Nat) (g : GT), v0 = .agg #[.slice OA on oc, .slice NA nn nc] ∧ RG w w.heap.size ⟨OA, on, oc⟩ ⟨NA, nn, nc⟩ g := by
  obtain ⟨cs, rfl, hsz⟩ := okWide_struct Try.underlying25 hv
  obtain ⟨fuel, hf⟩ := h
  obtain ⟨ys, m, _, _, hcl, hyl, hf⟩ := DataW.trod_struct Try.underlying25 hf
  rw [cellsG] at hcl
  obtain ⟨l, hl⟩ : ∃ l, cs.toList = l := ⟨_, rfl⟩
  have hcs : cs = l.toArray := by rw [← hl]
  subst hcs
  simp only [Value.cells, List.toList_toArray] at hf hcl
  match l, hcl with
  | [v0, v1], _ =>
    match ys, hyl with
    | [y0, y1], _ =>
      have g0 := hf 0 _ rfl
      have g1 := hf 1 _ rfl
      simp [cellsL, cellsN] at g0 g1
      obtain ⟨⟨A, n, c⟩, lo, e0, r0⟩ := open_intsC g0
      obtain ⟨⟨A2, n2, c2⟩, ln, e1, r1⟩ := open_rows RowAt Try.underlying23 cellsL elem_row g1
      injection e0 with e0
      injection e1 with e1
      subst e0; subst e1
      exact ⟨A, n, c, A2, n2, c2, ⟨lo, ln⟩, rfl, r0, r1⟩
theorem open_bools {r : Reach} {b0 : Nat} {v0 : Value} {d : DataW H} {p : List MemPlace} (hv : Value.okWide Try.prog w r b0 26 v0) (h : DataW.Trod enc Try.prog w base spare held 26 v0 d p) : ∃ (A : Option Addr) (n c : Nat) (l : List Bool), v0 = .slice A n c ∧ RB w w.heap.size ⟨A, n, c⟩ l := by
  obtain ⟨A, n, c, rfl⟩ := okWide_slice Try.underlying26 hv
  obtain ⟨fuel, hf⟩ := h
  obtain ⟨⟨A2, n2, c2⟩, l, e, hr⟩ := open_rows BoolAt Try.underlying26 cellsB elem_bool hf
  simp [Value.cells, SL.v] at e
  obtain ⟨rfl, rfl, rfl⟩ := e
  exact ⟨_, _, _, l, rfl, hr⟩
theorem open_ints {r : Reach} {b0 : Nat} {v0 : Value} {d : DataW H} {p : List MemPlace} (hv : Value.okWide Try.prog w r b0 22 v0) (h : DataW.Trod enc Try.prog w base spare held 22 v0 d p) : ∃ (A : Option Addr) (n c : Nat) (l : List Int), v0 = .slice A n c ∧ RI w w.heap.size ⟨A, n, c⟩ l := by
  obtain ⟨A, n, c, rfl⟩ := okWide_slice Try.underlying22 hv
  obtain ⟨fuel, hf⟩ := h
  obtain ⟨⟨A2, n2, c2⟩, l, e, hr⟩ := open_intsC hf
  simp [Value.cells, SL.v] at e
  obtain ⟨rfl, rfl, rfl⟩ := e
  exact ⟨_, _, _, l, rfl, hr⟩
end
end Go.Proofs.Ytnecihnhlkaajaa.Gr
