/- Commands and modules that came in, opened. -/
import Derived.Test.YtbppdalfcldodaaGreatEOpen
import Derived.Test.YtbppdalfcldodaaGreatVOpen
import Derived.Test.YtbppdalfcldodaaGreatGMd
set_option maxRecDepth 100000
namespace Go.Proofs.YtbppdalfcldodaaGreat
open Go.RowKit Go.WideShapes Go.ChangeShapes Go.Deep Ex
set_option linter.unusedSimpArgs false
set_option linter.unusedVariables false

instance : Inhabited ST := ⟨⟨0, false, .mk 0 0 []⟩⟩
instance : Inhabited CT := ⟨⟨.mk 0 0 [], []⟩⟩
theorem cellsSet : Tryz.prog.cellsOf 111 = 5 := by kernel_rfl
theorem cellsCmd : Tryz.prog.cellsOf 71 = 4 := by kernel_rfl
theorem cellsMod : Tryz.prog.cellsOf 28 = 12 := by kernel_rfl
theorem cellsE : Tryz.prog.cellsOf 25 = 3 := by kernel_rfl
theorem cellsI : Tryz.prog.cellsOf 3 = 1 := by kernel_rfl
theorem cellsB : Tryz.prog.cellsOf 4 = 1 := by kernel_rfl
theorem cellsVs : Tryz.prog.cellsOf 22 = 1 := by kernel_rfl
theorem cellsEs : Tryz.prog.cellsOf 23 = 1 := by kernel_rfl
theorem cellsCs : Tryz.prog.cellsOf 26 = 1 := by kernel_rfl
theorem cellsSs : Tryz.prog.cellsOf 69 = 1 := by kernel_rfl

section
variable {H : Type} {enc : TypeId × Value → H} {w : World} {base : Nat} {spare : Nat → Bool} {held : Bool}
theorem cell_at {a : Addr} {n : Nat} {cs : List Value} (hc : w.cells? base a n = some cs) (hn : 0 < n) : a = ⟨a.block, a.off, none⟩ ∧ a.block < w.heap.size ∧ cs.length = n ∧ ∀ i v, cs[i]? = some v → w.cell? ⟨a.block, a.off + i, none⟩ = some v := by
  obtain ⟨_, hl, hat⟩ := World.cells?_some hc
  have h0 := hat 0 (by omega)
  obtain ⟨b, off, spot⟩ := a
  rw [List.getElem?_eq_getElem (by omega)] at h0
  have hspot : spot = none := by simpa [Addr.add] using World.cell?_spot (show w.cell? ((⟨b, off, spot⟩ : Addr).add 0) = some _ from h0)
  subst hspot
  refine ⟨rfl, ?_, hl, fun i v hv => ?_⟩
  · show b < w.heap.size
    rcases Nat.lt_or_ge b w.heap.size with hh | hh
    · exact hh
    · simp [Addr.add, World.cell?, Array.getElem?_eq_none hh] at h0
  · have hi : i < n := by rw [← hl]; exact (List.getElem?_eq_some_iff.1 hv).1
    have := hat i hi
    rw [hv] at this
    by_cases h5 : i = 0
    · subst h5; simpa [Addr.add] using this
    · simpa [Addr.add, h5] using this
theorem open_rows {α : Type} [Inhabited α] (P : World → Nat → Nat → Nat → α → Prop) {E TS : TypeId} {sz : Nat} (hu : Tryz.prog.underlying TS = some (.slice E)) (hsz : Tryz.prog.cellsOf E = sz)
    (elem : ∀ (fuel : Nat) (a : Addr) (cs : List Value) (x : DataW H × List MemPlace), w.cells? base a sz = some cs → DataW.trod enc Tryz.prog w base spare held fuel E cs = some x → ∃ v : α, a = ⟨a.block, a.off, none⟩ ∧ a.block < w.heap.size ∧ P w w.heap.size a.block a.off v)
    {fuel : Nat} {cs : List Value} {x : DataW H × List MemPlace} (h : DataW.trod enc Tryz.prog w base spare held fuel TS cs = some x) : ∃ (s : SL) (l : List α), cs = [s.v] ∧ Rows P sz w w.heap.size s l := by
  rcases DataW.trod_slice hu h with ⟨hcs, _⟩ | ⟨a, len, cap, elems, rest, q, hq, hcs, _, _, hl, hcm, hlen, hel, _, _⟩
  · exact ⟨⟨none, 0, 0⟩, [], hcs, rfl, Nat.le_refl _, by show 0 ≤ maxLen; omega, fun h => absurd h (by show ¬ 0 < 0; omega), fun _ => rfl⟩
  · have each : ∀ i, i < len → ∃ v : α, a.add (i * sz) = ⟨(a.add (i * sz)).block, (a.add (i * sz)).off, none⟩ ∧ (a.add (i * sz)).block < w.heap.size ∧ P w w.heap.size (a.add (i * sz)).block (a.add (i * sz)).off v := by
      intro i hi
      have hb := hel i hi
      rw [hsz, List.getElem?_eq_getElem (by omega)] at hb
      obtain ⟨cs', hc', ht'⟩ := Option.bind_eq_some_iff.1 hb
      exact elem q _ cs' _ hc' ht'
    obtain ⟨f, hfv⟩ := choose_lt each
    refine ⟨⟨some a, len, cap⟩, (List.range len).map f, hcs, by simp, hl, hcm, fun h0 => ?_, fun h => by simp at h⟩
    have ha := (hfv 0 h0).1
    have ha0 : a.add (0 * sz) = a := by simp [Addr.add]
    rw [ha0] at ha
    refine ⟨a.block, a.off, by show some a = _; rw [← ha], ?_, fun k u hk => ?_⟩
    · have := (hfv 0 h0).2.1
      rwa [ha0] at this
    · rw [List.getElem?_map] at hk
      obtain ⟨i, hi, rfl⟩ := Option.map_eq_some_iff.1 hk
      obtain ⟨hlt, e⟩ := List.getElem?_eq_some_iff.1 hi
      have hkn : k < len := by simpa using hlt
      have hik : i = k := by rw [← e]; simp
      subst hik
      have hadd : (a.add (i * sz)).block = a.block ∧ (a.add (i * sz)).off = a.off + i * sz := by
        unfold Addr.add
        by_cases h5 : i * sz = 0
        · simp [h5]
        · simp [h5]
      have := (hfv i hkn).2.2
      rw [hadd.1, hadd.2] at this
      exact this
theorem elem_expr (fuel : Nat) (a : Addr) (cs : List Value) (x : DataW H × List MemPlace) (hc : w.cells? base a 3 = some cs) (h : DataW.trod enc Tryz.prog w base spare held fuel 25 cs = some x) : ∃ t : T, a = ⟨a.block, a.off, none⟩ ∧ a.block < w.heap.size ∧ ExAt w w.heap.size a.block a.off t := by
  obtain ⟨h1, h2, _, hat⟩ := cell_at hc (by omega)
  obtain ⟨op, n, A, len, cap, t, hcs, hre⟩ := open_exprC fuel fuel (Nat.le_refl _) _ _ h
  subst hcs
  exact ⟨t, h1, h2, ⟨op, n, A, len, cap⟩, ⟨hat 0 _ rfl, hat 1 _ rfl, hat 2 _ rfl⟩, fuel + 1, hre⟩
theorem elem_set (fuel : Nat) (a : Addr) (cs : List Value) (x : DataW H × List MemPlace) (hc : w.cells? base a 5 = some cs) (h : DataW.trod enc Tryz.prog w base spare held fuel 111 cs = some x) : ∃ s : ST, a = ⟨a.block, a.off, none⟩ ∧ a.block < w.heap.size ∧ SetAt w w.heap.size a.block a.off s := by
  obtain ⟨h1, h2, hl, hat⟩ := cell_at hc (by omega)
  obtain ⟨ys, m, _, _, _, hyl, hf⟩ := DataW.trod_struct Tryz.underlying111 h
  match cs, hl with
  | [v0, v1, v2, v3, v4], _ =>
    match ys, hyl with
    | [y0, y1, y2], _ =>
      have g0 := hf 0 _ rfl
      have g1 := hf 1 _ rfl
      have g2 := hf 2 _ rfl
      simp [cellsI, cellsB, cellsE] at g0 g1 g2
      obtain ⟨z, e0, _, _⟩ := DataW.trod_int Tryz.underlying3 g0
      obtain ⟨p, e1, _⟩ := DataW.trod_bool Tryz.underlying4 g1
      obtain ⟨op, n, A, len, cap, t, hcs, hre⟩ := open_exprC _ _ (Nat.le_refl _) _ _ g2
      injection e0 with e0; injection e1 with e1
      injection hcs with e2 hcs; injection hcs with e3 hcs; injection hcs with e4 hcs
      subst e0; subst e1; subst e2; subst e3; subst e4
      exact ⟨⟨z, p, t⟩, h1, h2, hat 0 _ rfl, hat 1 _ rfl, ⟨op, n, A, len, cap⟩, ⟨hat 2 _ rfl, hat 3 _ rfl, hat 4 _ rfl⟩, _, hre⟩
theorem open_cmdC {fuel : Nat} {cs : List Value} {x : DataW H × List MemPlace} (h : DataW.trod enc Tryz.prog w base spare held fuel 71 cs = some x) : ∃ (k : C2) (c : CT), cs = k.cells.toList ∧ RC w w.heap.size k c := by
  obtain ⟨ys, m, _, _, hcl, hyl, hf⟩ := DataW.trod_struct Tryz.underlying71 h
  rw [cellsCmd] at hcl
  match cs, hcl with
  | [v0, v1, v2, v3], _ =>
    match ys, hyl with
    | [y0, y1], _ =>
      have g0 := hf 0 _ rfl
      have g1 := hf 1 _ rfl
      simp [cellsE, cellsSs] at g0 g1
      obtain ⟨op, n, A, len, cap, t, hcs, hre⟩ := open_exprC _ _ (Nat.le_refl _) _ _ g0
      obtain ⟨s, l, hs, hr⟩ := open_rows SetAt Tryz.underlying69 cellsSet elem_set g1
      injection hcs with e2 hcs; injection hcs with e3 hcs; injection hcs with e4 hcs
      injection hs with hs
      subst e2; subst e3; subst e4; subst hs
      exact ⟨⟨⟨op, n, A, len, cap⟩, s⟩, ⟨t, l⟩, rfl, ⟨_, hre⟩, hr⟩
theorem elem_cmd (fuel : Nat) (a : Addr) (cs : List Value) (x : DataW H × List MemPlace) (hc : w.cells? base a 4 = some cs) (h : DataW.trod enc Tryz.prog w base spare held fuel 71 cs = some x) : ∃ c : CT, a = ⟨a.block, a.off, none⟩ ∧ a.block < w.heap.size ∧ CmdAt w w.heap.size a.block a.off c := by
  obtain ⟨h1, h2, _, hat⟩ := cell_at hc (by omega)
  obtain ⟨k, c, hcs, hr⟩ := open_cmdC h
  subst hcs
  exact ⟨c, h1, h2, ⟨k.guard, ⟨hat 0 _ rfl, hat 1 _ rfl, hat 2 _ rfl⟩, hr.1⟩, k.sets, hat 3 _ rfl, hr.2⟩
theorem open_varsC {fuel : Nat} {cs : List Value} {x : DataW H × List MemPlace} (h : DataW.trod enc Tryz.prog w base spare held fuel 22 cs = some x) : ∃ (s : SL) (l : List Dom.V), cs = [s.v] ∧ OkVars s l ∧ Dom.RV w w.heap.size s.A s.n l := by
  obtain ⟨s, l, hcs, hr⟩ := open_rows (fun w B b o (v : Dom.V) => v.nm.size ≤ maxLen ∧ Dom.CellV w b o v) Tryz.underlying22 (sz := 5) (by kernel_rfl) (fun fuel a cs x hc h => by
    obtain ⟨v, k1, k2, k3, k4⟩ := Dom.open_var hc h
    exact ⟨v, k2, k3, k1, k4⟩) h
  refine ⟨s, l, hcs, ⟨Nat.le_trans hr.2.1 hr.2.2.1, hr.2.1, hr.2.2.1, fun v hv => ?_⟩, hr.1, fun hn => ?_⟩
  · obtain ⟨i, hi⟩ := List.getElem?_of_mem hv
    have hil : i < l.length := (List.getElem?_eq_some_iff.1 hi).1
    obtain ⟨b, off, _, hb, hc⟩ := hr.2.2.2.1 (by have := hr.1; omega)
    exact (hc i v hi).1
  · obtain ⟨b, off, e, hb, hc⟩ := hr.2.2.2.1 hn
    exact ⟨b, off, e, hb, fun k v hv => (hc k v hv).2⟩
theorem open_modC {fuel : Nat} {cs : List Value} {x : DataW H × List MemPlace} (h : DataW.trod enc Tryz.prog w base spare held fuel 28 cs = some x) : ∃ (k : M8) (m : MT), cs = k.cells.toList ∧ RM w w.heap.size k m := by
  obtain ⟨ys, m, _, _, hcl, hyl, hf⟩ := DataW.trod_struct Tryz.underlying28 h
  rw [cellsMod] at hcl
  match cs, hcl with
  | [v0, v1, v2, v3, v4, v5, v6, v7, v8, v9, v10, v11], _ =>
    match ys, hyl with
    | [y0, y1, y2, y3, y4, y5, y6, y7], _ =>
      have g0 := hf 0 _ rfl
      have g1 := hf 1 _ rfl
      have g2 := hf 2 _ rfl
      have g3 := hf 3 _ rfl
      have g4 := hf 4 _ rfl
      have g5 := hf 5 _ rfl
      have g6 := hf 6 _ rfl
      have g7 := hf 7 _ rfl
      simp [cellsE, cellsVs, cellsCs, cellsEs] at g0 g1 g2 g3 g4 g5 g6 g7
      obtain ⟨s0, l0, q0, ok, r0⟩ := open_varsC g0
      obtain ⟨o1, n1, A1, le1, c1, t1, q1, r1⟩ := open_exprC _ _ (Nat.le_refl _) _ _ g1
      obtain ⟨o2, n2, A2, le2, c2, t2, q2, r2⟩ := open_exprC _ _ (Nat.le_refl _) _ _ g2
      obtain ⟨s3, l3, q3, r3⟩ := open_rows CmdAt Tryz.underlying26 cellsCmd elem_cmd g3
      obtain ⟨s4, l4, q4, r4⟩ := open_rows CmdAt Tryz.underlying26 cellsCmd elem_cmd g4
      obtain ⟨s5, l5, q5, r5⟩ := open_rows ExAt Tryz.underlying23 cellsE elem_expr g5
      obtain ⟨s6, l6, q6, r6⟩ := open_rows ExAt Tryz.underlying23 cellsE elem_expr g6
      obtain ⟨s7, l7, q7, r7⟩ := open_rows ExAt Tryz.underlying23 cellsE elem_expr g7
      injection q0 with q0
      injection q1 with a1 q1; injection q1 with a2 q1; injection q1 with a3 q1
      injection q2 with b1 q2; injection q2 with b2 q2; injection q2 with b3 q2
      injection q3 with q3; injection q4 with q4; injection q5 with q5; injection q6 with q6; injection q7 with q7
      subst q0; subst a1; subst a2; subst a3; subst b1; subst b2; subst b3; subst q3; subst q4; subst q5; subst q6; subst q7
      exact ⟨⟨s0, ⟨o1, n1, A1, le1, c1⟩, ⟨o2, n2, A2, le2, c2⟩, s3, s4, s5, s6, s7⟩, ⟨l0, t1, t2, l3, l4, l5, l6, l7⟩, rfl, ok, r0, ⟨_, r1⟩, ⟨_, r2⟩, r3, r4, r5, r6, r7⟩
theorem open_mod {r : Reach} {b0 : Nat} {v0 : Value} {d : DataW H} {p : List MemPlace} (hv : Value.okWide Tryz.prog w r b0 28 v0) (h : DataW.Trod enc Tryz.prog w base spare held 28 v0 d p) : ∃ (k : M8) (m : MT), v0 = .agg k.cells ∧ RM w w.heap.size k m := by
  obtain ⟨cs, rfl, hsz⟩ := okWide_struct Tryz.underlying28 hv
  obtain ⟨fuel, hf⟩ := h
  obtain ⟨k, m, hcs, hr⟩ := open_modC hf
  refine ⟨k, m, ?_, hr⟩
  have : cs.toList = k.cells.toList := by simpa [Value.cells] using hcs
  rw [Array.ext' this]
end
end Go.Proofs.YtbppdalfcldodaaGreat
