/- The walk of ModuleMore. -/
import Derived.Test.YtddbplgcglgloaaMLong
namespace Go.Proofs.Ytddbplgcglgloaa
open Go.RowKit Ex
open Go.Sort (grow)
set_option linter.unusedSimpArgs false
set_option linter.unusedVariables false

theorem own_base {w : World} {base base2 e size n : Nat} {v : Value} {xs : List Value} (h : w.ownsRow base e size v n xs) (hb : base2 ≤ base) : w.ownsRow base2 e size v n xs := by
  refine ⟨h.1, ?_⟩
  rcases h.2 with h | ⟨g, cap, cur, h1, h2, h3⟩
  · exact .inl h
  · exact .inr ⟨g, cap, cur, h1, by omega, h3⟩
def ShortR (w8 : World) (B gl base : Nat) (w : World) (sv : Value) (l2 : List CT) : Prop := (sv = .slice (some ⟨gl, 0, none⟩) 0 0 ∧ l2 = []) ∨ ∃ (g cap : Nat) (ks2 : List (List Value)), sv = .slice (some ⟨g, 0, none⟩) l2.length cap ∧ w.ownsRow base 31 4 sv l2.length ks2.flatten ∧ Chunk 4 (CmdC w8 B) ks2 l2
theorem short_rows {w8 w : World} {B gl base : Nat} {sv : Value} {l2 : List CT} (h : ShortR w8 B gl base w sv l2) (hl : l2.length ≤ 100) (hb : Below B w8 w) (hB : B ≤ w.heap.size) : ∃ gs cs, sv = .slice (some ⟨gs, 0, none⟩) l2.length cs ∧ Rows CmdAt 4 w w.heap.size ⟨some ⟨gs, 0, none⟩, l2.length, cs⟩ l2 := by
  rcases h with ⟨rfl, rfl⟩ | ⟨g, cap, ks2, rfl, how, hch⟩
  · exact ⟨gl, 0, rfl, rfl, Nat.le_refl _, by show 0 ≤ maxLen; unfold maxLen; omega, fun h => absurd h (by show ¬ 0 < 0; omega), fun h => by cases h⟩
  · exact ⟨g, cap, rfl, own_rows (by omega) how hch (fun b o ch a _ hc hcc => ((cmd_back (hc.up hb (Nat.le_refl _)) hcc).more hB))⟩
theorem short_set {w8 w : World} {B gl base : Nat} {sv : Value} {l2 : List CT} (h : ShortR w8 B gl base w sv l2) {a : Addr} (ha : a.block < base) (u : Value) : ShortR w8 B gl base (w.setCell a u) sv l2 := by
  rcases h with h | ⟨g, cap, ks2, h1, how, hch⟩
  · exact .inl h
  · exact .inr ⟨g, cap, ks2, h1, ownsRow_setCell_below how ha u, hch⟩
theorem short_keep {w8 w w' : World} {B gl base : Nat} {sv : Value} {l2 : List CT} (h : ShortR w8 B gl base w sv l2) (hb : Below w.heap.size w w') : ShortR w8 B gl base w' sv l2 := by
  rcases h with h | ⟨g, cap, ks2, h1, how, hch⟩
  · exact .inl h
  · refine .inr ⟨g, cap, ks2, h1, ?_, hch⟩
    subst h1
    have hg : g < w.heap.size := by
      rcases how.2 with ⟨e1, _⟩ | ⟨g3, cap3, cur, e1, h2, h3, _⟩
      · cases e1
      · injection e1 with e2
        injection e2 with e2
        injection e2 with e2
        subst e2
        exact (Array.getElem?_eq_some_iff.1 h3).1
    obtain ⟨cap', e, h⟩ := OwnR.keep (w := w) (w' := w') (g := g) ⟨cap, rfl, how⟩ (hb.block g hg)
    exact h
theorem row_sys {w : World} {g : Nat} {x : M8} {s : SL} (h : w.rowIs g 28 12 (fun i => if i = 8 then s.v else mV x i)) : w.rowIs g 28 12 (mV { x with sys := s }) :=
  h.congr (fun i hi => by
    have h : i = 0 ∨ i = 1 ∨ i = 2 ∨ i = 3 ∨ i = 4 ∨ i = 5 ∨ i = 6 ∨ i = 7 ∨ i = 8 ∨ i = 9 ∨ i = 10 ∨ i = 11 := by omega
    rcases h with rfl | rfl | rfl | rfl | rfl | rfl | rfl | rfl | rfl | rfl | rfl | rfl <;> rfl)
theorem row_env {w : World} {g : Nat} {x : M8} {s : SL} (h : w.rowIs g 28 12 (fun i => if i = 7 then s.v else mV x i)) : w.rowIs g 28 12 (mV { x with env := s }) :=
  h.congr (fun i hi => by
    have h : i = 0 ∨ i = 1 ∨ i = 2 ∨ i = 3 ∨ i = 4 ∨ i = 5 ∨ i = 6 ∨ i = 7 ∨ i = 8 ∨ i = 9 ∨ i = 10 ∨ i = 11 := by omega
    rcases h with rfl | rfl | rfl | rfl | rfl | rfl | rfl | rfl | rfl | rfl | rfl | rfl <;> rfl)
theorem rm_sys {w : World} {B : Nat} {x : M8} {m : MT} {s : SL} {l : List CT} (h : RM w B x m) (hs : Rows CmdAt 4 w B s l) : RM w B { x with sys := s } { m with sys := l } :=
  ⟨h.1, h.2.1, h.2.2.1, h.2.2.2.1, h.2.2.2.2.1, hs, h.2.2.2.2.2.2.1, h.2.2.2.2.2.2.2.1, h.2.2.2.2.2.2.2.2⟩
theorem rm_env {w : World} {B : Nat} {x : M8} {m : MT} {s : SL} {l : List CT} (h : RM w B x m) (hs : Rows CmdAt 4 w B s l) : RM w B { x with env := s } { m with env := l } :=
  ⟨h.1, h.2.1, h.2.2.1, h.2.2.2.1, hs, h.2.2.2.2.2.1, h.2.2.2.2.2.2.1, h.2.2.2.2.2.2.2.1, h.2.2.2.2.2.2.2.2⟩

set_option maxRecDepth 100000 in
set_option maxHeartbeats 8000000 in
theorem mmore_any (B : Nat) (x : M8) (m : MT) (y : C2) (c : CT) (env : Bool) (at0 : Int) (w : World) (hB : B ≤ w.heap.size) (hrm : RM w B x m) (hrc : RC w B y c) :
    Calls Try.prog 3 #[.agg x.cells, .agg y.cells, .bool env, .int .i64 at0] w fun e w' => e = .returned (.bool true) ∧ Below w.heap.size w w' := by
  obtain ⟨b0, b1, b2, b3, hz0, hbx⟩ := pre_blocks w x.cells y.cells (dM (w.heap.size + 2)).cells
  have Hrm := hide (hrm.below (hbx.mono hB))
  have Hrc := hide (hrc.below (hbx.mono hB))
  have Hrd := hide (d_rm b2 (Hrc.out) (by omega))
  have Hb0 := hide b0; have Hb1 := hide b1; have Hb3 := hide b3
  have Hbx := hide hbx
  clear hrm hrc hbx b0 b1 b2 b3
  obtain ⟨⟨vA, vn, vc⟩, ⟨io, im, iA, il, ic⟩, ⟨jo, jm, jA, jl, jc⟩, ⟨eA, en, ec⟩, ⟨sA, sn, sc⟩, ⟨aA, an, ac⟩, ⟨nA, nn, nc⟩, ⟨pA, pn, pc⟩⟩ := x
  obtain ⟨⟨co, cn, cA, cl, cc⟩, ⟨tA, tn, tc⟩⟩ := y
  simp only [M8.cells, C2.cells, SL.v, dM] at *
  have y0 := (box4 (w.alloc (.cells #[.slice vA vn vc, .int .i64 io, .int .i64 im, .slice iA il ic, .int .i64 jo, .int .i64 jm, .slice jA jl jc, .slice eA en ec, .slice sA sn sc, .slice aA an ac, .slice nA nn nc, .slice pA pn pc] 28)) co cn cA cl cc tA tn tc).1
  have y3 := (box4 (w.alloc (.cells #[.slice vA vn vc, .int .i64 io, .int .i64 im, .slice iA il ic, .int .i64 jo, .int .i64 jm, .slice jA jl jc, .slice eA en ec, .slice sA sn sc, .slice aA an ac, .slice nA nn nc, .slice pA pn pc] 28)) co cn cA cl cc tA tn tc).2
  obtain ⟨g0, g1, g2⟩ := y0
  have e1 : (w.alloc (.cells #[.slice vA vn vc, .int .i64 io, .int .i64 im, .slice iA il ic, .int .i64 jo, .int .i64 jm, .slice jA jl jc, .slice eA en ec, .slice sA sn sc, .slice aA an ac, .slice nA nn nc, .slice pA pn pc] 28)).heap.size = w.heap.size + 1 := by simp
  rw [e1] at g0 g1 g2 y3
  clear e1
  go_enter Try.func3, Try.ntmps3
  go_wp2_with fail
  clear g0 g1 g2 y3
  generalize (((w.alloc (.cells #[.slice vA vn vc, .int .i64 io, .int .i64 im, .slice iA il ic, .int .i64 jo, .int .i64 jm, .slice jA jl jc, .slice eA en ec, .slice sA sn sc, .slice aA an ac, .slice nA nn nc, .slice pA pn pc] 28)).alloc (.cells #[.int .i64 co, .int .i64 cn, .slice cA cl cc, .slice tA tn tc] 31)).alloc (.cells #[.int .i64 co, .int .i64 cn, .slice cA cl cc, .slice tA tn tc] 31)).alloc (.cells #[.slice none 0 0, .int .i64 0, .int .i64 0, .slice none 0 0, .int .i64 0, .int .i64 0, .slice none 0 0, .slice (some ⟨w.heap.size + 2, 0, none⟩) 1 1, .slice none 0 0, .slice none 0 0, .slice none 0 0, .slice none 0 0] 28) = W at *
  generalize hN : w.heap.size = N at *
  have hBW : B ≤ W.heap.size := by omega
  have hDW : N + 2 + 1 ≤ W.heap.size := by omega
  obtain ⟨h1a, h1b⟩ := hvM_bd m
  obtain ⟨h2a, h2b⟩ := hvM_bd (dT c)
  have Hc7 : Hid (∀ (a r : Value) dd os, ((a = .agg #[.slice vA vn vc, .int .i64 io, .int .i64 im, .slice iA il ic, .int .i64 jo, .int .i64 jm, .slice jA jl jc, .slice eA en ec, .slice sA sn sc, .slice aA an ac, .slice nA nn nc, .slice pA pn pc] ∧ r = .int .i64 (hvM m)) ∨ (a = .agg #[.slice none 0 0, .int .i64 0, .int .i64 0, .slice none 0 0, .int .i64 0, .int .i64 0, .slice none 0 0, .slice (some ⟨N + 2, 0, none⟩) 1 1, .slice none 0 0, .slice none 0 0, .slice none 0 0, .slice none 0 0] ∧ r = .int .i64 (hvM (dT c)))) → Calls Try.prog 7 #[a] (grow (redrawn W dd) os) fun e w'' => e = .returned r ∧ ∃ p : Regrown, w'' = grow (redrawn W p.d) p.os) := hide (fun a r dd os h => by
    rcases h with ⟨rfl, rfl⟩ | ⟨rfl, rfl⟩
    · exact q_hvx (x := ⟨⟨vA, vn, vc⟩, ⟨io, im, iA, il, ic⟩, ⟨jo, jm, jA, jl, jc⟩, ⟨eA, en, ec⟩, ⟨sA, sn, sc⟩, ⟨aA, an, ac⟩, ⟨nA, nn, nc⟩, ⟨pA, pn, pc⟩⟩) hBW Hrm
    · exact q_hvx (x := dM (N + 2)) hDW Hrd)
  have Hc8 : Hid (∀ dd os, Calls Try.prog 8 #[.agg #[.slice vA vn vc, .int .i64 io, .int .i64 im, .slice iA il ic, .int .i64 jo, .int .i64 jm, .slice jA jl jc, .slice eA en ec, .slice sA sn sc, .slice aA an ac, .slice nA nn nc, .slice pA pn pc]] (grow (redrawn W dd) os) fun e w'' => e = .returned (.int .i64 (modE m)) ∧ ∃ p : Regrown, w'' = grow (redrawn W p.d) p.os) := hide (fun dd os => q_dmod (x := ⟨⟨vA, vn, vc⟩, ⟨io, im, iA, il, ic⟩, ⟨jo, jm, jA, jl, jc⟩, ⟨eA, en, ec⟩, ⟨sA, sn, sc⟩, ⟨aA, an, ac⟩, ⟨nA, nn, nc⟩, ⟨pA, pn, pc⟩⟩) hBW Hrm)
  have C0 := cell_regrown (blk Hb0.out (i := 0) rfl)
  have C1 := cell_regrown (blk Hb0.out (i := 1) rfl)
  have C2 := cell_regrown (blk Hb0.out (i := 2) rfl)
  have C3 := cell_regrown (blk Hb0.out (i := 3) rfl)
  have C4 := cell_regrown (blk Hb0.out (i := 4) rfl)
  have C5 := cell_regrown (blk Hb0.out (i := 5) rfl)
  have C6 := cell_regrown (blk Hb0.out (i := 6) rfl)
  have C7 := cell_regrown (blk Hb0.out (i := 7) rfl)
  have C8 := cell_regrown (blk Hb0.out (i := 8) rfl)
  have C9 := cell_regrown (blk Hb0.out (i := 9) rfl)
  have C10 := cell_regrown (blk Hb0.out (i := 10) rfl)
  have C11 := cell_regrown (blk Hb0.out (i := 11) rfl)
  have F0 := cell_regrown (blk Hb3.out (i := 0) rfl)
  have F1 := cell_regrown (blk Hb3.out (i := 1) rfl)
  have F2 := cell_regrown (blk Hb3.out (i := 2) rfl)
  have F3 := cell_regrown (blk Hb3.out (i := 3) rfl)
  have F4 := cell_regrown (blk Hb3.out (i := 4) rfl)
  have F5 := cell_regrown (blk Hb3.out (i := 5) rfl)
  have F6 := cell_regrown (blk Hb3.out (i := 6) rfl)
  have F7 := cell_regrown (blk Hb3.out (i := 7) rfl)
  have F8 := cell_regrown (blk Hb3.out (i := 8) rfl)
  have F9 := cell_regrown (blk Hb3.out (i := 9) rfl)
  have F10 := cell_regrown (blk Hb3.out (i := 10) rfl)
  have F11 := cell_regrown (blk Hb3.out (i := 11) rfl)
  by_cases hh : 0 < hvM m + hvM (dT c)
  · have hhb : decide (0 < hvM m + hvM (dT c)) = true := by simp [hh]
    refine wp_region_quiet_below (by kernel_rfl) (by kernel_rfl) ?_
    repeat (go_big_quiet_step (first | (go_at_call 7; exact Hc7.out _ _ _ _ (by first | exact Or.inl ⟨rfl, rfl⟩ | exact Or.inr ⟨rfl, rfl⟩)) | (go_at_call 8; exact Hc8.out _ _)))
    refine wpQuiet_nil ?_
    intro w3 hw3
    obtain ⟨p, hp⟩ := hw3
    have hb3 : Below W.heap.size W w3 := by rw [hp]; exact below_regrown W p.d p.os
    have hz3 := hb3.size
    have Hb3 := hide (Hbx.out.trans (hb3.mono (by omega)))
    clear hp
    go_wp2_with fail
    refine (awake_any _).mono ?_
    rintro e w4 ⟨rfl, hb4⟩
    go_wp2_with fail
    go_ret
    exact ⟨rfl, by rw [hN]; exact Hb3.out.trans (hb4.mono (by omega))⟩
  · have hhb : decide (0 < hvM m + hvM (dT c)) = false := by simp; omega
    refine wp_region_quiet_below (by kernel_rfl) (by kernel_rfl) ?_
    repeat (go_big_quiet_step (first | (go_at_call 7; exact Hc7.out _ _ _ _ (by first | exact Or.inl ⟨rfl, rfl⟩ | exact Or.inr ⟨rfl, rfl⟩)) | (go_at_call 8; exact Hc8.out _ _)))
    refine wpQuiet_nil ?_
    intro w3 hw3
    obtain ⟨p, hp⟩ := hw3
    have hb3 : Below W.heap.size W w3 := by rw [hp]; exact below_regrown W p.d p.os
    have hz3 := hb3.size
    have Hbw := hide (Hbx.out.trans (hb3.mono (by omega)))
    have Hm3 := hide ((hb3.block N (by omega)).trans Hb0.out)
    have Hc3 := hide ((hb3.block (N + 1) (by omega)).trans Hb1.out)
    have Hrm3 := hide (Hrm.out.below (hb3.mono hBW))
    have Hrc3 := hide (Hrc.out.below (hb3.mono hBW))
    have hzw : N + 4 ≤ w3.heap.size := by omega
    clear hp hb3 C0 C1 C2 C3 C4 C5 C6 C7 C8 C9 C10 C11 F0 F1 F2 F3 F4 F5 F6 F7 F8 F9 F10 F11 Hc7 Hc8 Hbx Hb0 Hb1 Hb3 Hrm Hrc Hrd h1a h1b h2a h2b
    by_cases hc : modE m = 0
    · have hcb : (modE m != 0) = false := by simp [hc]
      have Hcm := hide hc
      clear hc
      go_wp2_with fail
      clear hhb hcb hh
      have Hbm3 : Hid (BoxM w3 N ⟨⟨vA, vn, vc⟩, ⟨io, im, iA, il, ic⟩, ⟨jo, jm, jA, jl, jc⟩, ⟨eA, en, ec⟩, ⟨sA, sn, sc⟩, ⟨aA, an, ac⟩, ⟨nA, nn, nc⟩, ⟨pA, pn, pc⟩⟩) := hide (fun i v hv => blk Hm3.out hv)
      refine copies (n := 2) (src := 4) (b := N) (x := ⟨⟨vA, vn, vc⟩, ⟨io, im, iA, il, ic⟩, ⟨jo, jm, jA, jl, jc⟩, ⟨eA, en, ec⟩, ⟨sA, sn, sc⟩, ⟨aA, an, ac⟩, ⟨nA, nn, nc⟩, ⟨pA, pn, pc⟩⟩) (fun j => 34 + j) (fun j => 10 + j) [34, 35, 10, 11] (by kernel_rfl) (by kernel_rfl) ?_ ?_ ?_ (fun j o ho => (ownAc_spec (by kernel_rfl) j o ho).1) ?_ (by decide) (fun i j hi hj => by omega) (fun i j hi hj hne => by omega) rfl Hbm3.out (by omega) ?_
      · intro j hj
        have h : j = 0 ∨ j = 1 := by omega
        rcases h with rfl | rfl <;> exact ⟨_, _, _, rfl⟩
      · intro j hj
        have h : j = 0 ∨ j = 1 := by omega
        rcases h with rfl | rfl <;> exact ⟨_, _, _, rfl⟩
      · intro j hj
        have h : j = 0 ∨ j = 1 := by omega
        rcases h with rfl | rfl
        · exact ⟨_, _, _, rfl, ⟨⟨0, .data⟩, by simp, rfl, by kernel_rfl⟩, ⟨⟨2, .data⟩, by simp, rfl, by kernel_rfl⟩⟩
        · exact ⟨_, _, _, rfl, ⟨⟨1, .data⟩, by simp, rfl, by kernel_rfl⟩, ⟨⟨3, .data⟩, by simp, rfl, by kernel_rfl⟩⟩
      · intro j hj
        have h : j = 0 ∨ j = 1 := by omega
        rcases h with rfl | rfl <;> exact ⟨by simp, by simp, by simp, by simp⟩
      intro v p w6 hv hpp hb6
      obtain ⟨l0, d0, p00, p01, hp0⟩ := hv 0 (by omega)
      obtain ⟨l1, d1, p10, p11, hp1⟩ := hv 1 (by omega)
      simp only [Nat.add_zero, Nat.reduceAdd] at l0 l1 d0 d1
      have n01 := hpp 0 1 (by omega) (by omega) (by omega)
      generalize p 0 = g0 at *
      generalize p 1 = g1 at *
      rw [sel_cons, sel_cons, sel_cons, sel_cons, sel_nil, l0, l1, d0, d1]
      clear hv hpp l0 l1 d0 d1 v p
      have hz6 := hb6.size
      have Hp0 := hide hp0; have Hp1 := hide hp1
      have Hrm6 := hide (Hrm3.out.below (hb6.mono (by omega)))
      have Hrc6 := hide (Hrc3.out.below (hb6.mono (by omega)))
      have Hm6 := hide ((hb6.block N (by omega)).trans Hm3.out)
      have Hc6 := hide ((hb6.block (N + 1) (by omega)).trans Hc3.out)
      have Hb6 := hide (Hbw.out.trans (hb6.mono (by omega)))
      clear hp0 hp1 hb6 Hm3 Hc3 Hrm3 Hrc3 Hbw Hbm3
      simp only [M8.cells, SL.v]
      go_simp
      have k0 : w6.cell? ⟨N, 0, none⟩ = some (.slice vA vn vc) := blk Hm6.out (i := 0) rfl
      have l0 : w6.cell? ⟨N + 1, 0, none⟩ = some (.int .i64 co) := blk Hc6.out (i := 0) rfl
      have l1 : w6.cell? ⟨N + 1, 1, none⟩ = some (.int .i64 cn) := blk Hc6.out (i := 1) rfl
      have l2 : w6.cell? ⟨N + 1, 2, none⟩ = some (.slice cA cl cc) := blk Hc6.out (i := 2) rfl
      have l3 : w6.cell? ⟨N + 1, 3, none⟩ = some (.slice tA tn tc) := blk Hc6.out (i := 3) rfl
      go_wp2_with fail
      clear k0 l0 l1 l2 l3
      refine (dcmd_any B vA vn vc m.vars ⟨⟨co, cn, cA, cl, cc⟩, ⟨tA, tn, tc⟩⟩ c env w6 Hrm6.out.1 (by omega) Hrc6.out Hrm6.out.2.1).mono ?_
      rintro e w7 ⟨rfl, hb7⟩
      have hz7 := hb7.size
      have Hp07 := hide (Hp0.out.of_block (hb7.block _ (by omega)))
      have Hp17 := hide (Hp1.out.of_block (hb7.block _ (by omega)))
      have Hrm7 := hide (Hrm6.out.below (hb7.mono (by omega)))
      have Hrc7 := hide (Hrc6.out.below (hb7.mono (by omega)))
      have Hm7 := hide ((hb7.block N (by omega)).trans Hm6.out)
      have Hc7 := hide ((hb7.block (N + 1) (by omega)).trans Hc6.out)
      have Hb7 := hide (Hb6.out.trans (hb7.mono (by omega)))
      clear hb7 Hp0 Hp1 Hrm6 Hrc6 Hm6 Hc6 Hb6
      have Hsz := hide (sizesE_zero ((modE_iff m).1 Hcm.out).2.2.2.1)
      have xE : en ≤ 12 := by have h := Hsz.out; have h2 : m.env.length = en := Hrm7.out.2.2.2.2.1.1; omega
      have xS : sn ≤ 12 := by have h := Hsz.out; have h2 : m.sys.length = sn := Hrm7.out.2.2.2.2.2.1.1; omega
      have k8 : w7.cell? ⟨N, 8, none⟩ = some (.slice sA sn sc) := blk Hm7.out (i := 8) rfl
      have k7 : w7.cell? ⟨N, 7, none⟩ = some (.slice eA en ec) := blk Hm7.out (i := 7) rfl
      cases env
      · have Hev : Hid (cmdE m.vars c false = cmdE m.vars c false) := hide rfl
        go_wp2_with fail
        clear k7 k8
        obtain ⟨ks, hch, hcells⟩ := cmds_cells (Hrm7.out.2.2.2.2.2.1)
        have Hch := hide hch
        have Hcells := hide hcells
        have Hlen : Hid (ks.flatten.length = sn * 4) := hide (by rw [hch.len]; rw [show m.sys.length = sn from Hrm7.out.2.2.2.2.2.1.1])
        clear hch hcells
        refine long_region (b := N + 1) (y := ⟨⟨co, cn, cA, cl, cc⟩, ⟨tA, tn, tc⟩⟩) (xs := ks.flatten) (by kernel_rfl) (by kernel_rfl) (by kernel_rfl) (by kernel_rfl) ⟨_, _, _, rfl⟩ ⟨_, _, _, rfl⟩ ⟨_, _, _, rfl⟩ ⟨_, _, _, rfl⟩ ⟨_, _, _, rfl⟩ ⟨_, _, _, rfl⟩ ⟨_, _, _, rfl⟩ (by simp) rfl rfl Hc7.out (by omega) Hlen.out (fun e => rows_nil (Hrm7.out.2.2.2.2.2.1) e) Hcells.out Hch.out.one (by omega) ?_
        intro u gl capl w8 hu hown8 hb8
        rw [sel_cons, sel_cons, sel_cons, sel_cons, sel_cons, sel_cons, sel_cons, sel_nil, hu]
        generalize u 46 = u46
        generalize u 47 = u47
        generalize u 48 = u48
        generalize u 49 = u49
        generalize u 50 = u50
        generalize u 51 = u51
        clear hu u
        have hz8 := hb8.size
        have Hown8 := hide hown8
        have Hp08 := hide (Hp07.out.of_block (hb8.block _ (by omega)))
        have Hp18 := hide (Hp17.out.of_block (hb8.block _ (by omega)))
        have Hrm8 := hide (Hrm7.out.below (hb8.mono (by omega)))
        have Hrc8 := hide (Hrc7.out.below (hb8.mono (by omega)))
        have Hm8 := hide ((hb8.block N (by omega)).trans Hm7.out)
        have Hb8 := hide (Hb7.out.trans (hb8.mono (by omega)))
        have Hch8 : Hid (Chunk 4 (CmdC w8 B) (ks ++ [#[.int .i64 co, .int .i64 cn, .slice cA cl cc, .slice tA tn tc].toList]) (m.sys ++ [c])) := hide ((Chunk.snoc (a := c) Hch.out (ch := #[.int .i64 co, .int .i64 cn, .slice cA cl cc, .slice tA tn tc].toList) rfl (by simp [Value.oneCell']) ⟨⟨co, cn, cA, cl, cc⟩, ⟨tA, tn, tc⟩, rfl, Hrc7.out.1, Hrc7.out.2⟩).turn (fun ch a h => h.up (hb8.mono (by omega)) (Nat.le_refl _)))
        have hcapl : sn + 1 ≤ capl := by
          rcases hown8.2 with ⟨e1, _⟩ | ⟨g2, cap2, cur, e1, _, _, h2, _⟩
          · cases e1
          · injection e1 with _ _ e3; subst e3; exact h2
        have hcapm : capl ≤ 2 ^ 63 - 1 := by
          rcases hown8.2 with ⟨e1, _⟩ | ⟨g2, cap2, cur, e1, _, _, _, h2, _⟩
          · cases e1
          · injection e1 with _ _ e3; subst e3; exact h2
        clear hown8 hb8 Hp07 Hp17 Hrm7 Hrc7 Hm7 Hc7 Hb7 Hch Hcells Hlen
        go_simp
        go_wp2_with fail

        obtain ⟨i0, hi0, hi1, hi2, hi3⟩ := info_parts infoC
        have Hi0 := hide hi0; have Hi1 := hide hi1; have Hi2 := hide hi2; have Hi3 := hide hi3
        clear hi0 hi1 hi2 hi3
        have Hln : Hid (m.sys.length = sn) := hide Hrm8.out.2.2.2.2.2.1.1
        go_loopw [15, 56] (fun sv i wr => ∃ (k : Nat) (l2 : List CT), k ≤ sn ∧ i = .int .i64 k ∧ Below w8.heap.size w8 wr ∧ ShortR w8 B gl w8.heap.size wr sv l2 ∧ (∀ x ∈ l2, x ∈ m.sys) ∧ l2.length ≤ k) (fun _ i _ => sn - (intOf i).toNat)
        case atStart => exact ⟨0, [], by omega, rfl, Below.refl _ _, .inl ⟨rfl, rfl⟩, fun x h => by simp at h, Nat.le_refl _⟩
        case round =>
          obtain ⟨k, l2, hk, rfl, hb, hsr, hmem, hl2⟩ := hrel
          have hzr := hb.size
          have Hb := hide hb
          have Hmem := hide hmem
          clear hb hmem
          by_cases hlt : k < sn
          · have hlt' : ((k : Int) < (sn : Int)) := by omega
            obtain ⟨b, off, ce, eA2, hbB, hku, ⟨⟨⟨go, gn, gA, gl2, gc⟩, ⟨c0, c1, c2⟩, hex⟩, ⟨hA, hn, hc⟩, c3, hrs⟩⟩ := ((Hrm8.out.below (Hb.out.mono (by omega))).2.2.2.2.2.1).at_ (k := k) hlt
            simp only [SL.v] at eA2 c0 c1 c2 c3
            have Hce : Hid (CmdC w8 B #[.int .i64 go, .int .i64 gn, .slice gA gl2 gc, .slice hA hn hc].toList ce) := hide (by
              obtain ⟨ch, q1, q2, q3, x, s, q4, q5, q6⟩ := cmd_cells (w := w8) (B := B) (b := b) (off + k * 4) ce (by
                obtain ⟨b', off', ce', eA3, _, hku', hcm⟩ := Hrm8.out.2.2.2.2.2.1.at_ (k := k) hlt
                simp only at eA2 eA3
                rw [eA2] at eA3
                injection eA3 with eA3
                injection eA3 with e1 e2
                subst e1; subst e2
                rw [hku] at hku'
                obtain rfl := Option.some.inj hku'
                exact hcm)
              have hcell : ∀ p : Addr, p.block < B → wr.cell? p = w8.cell? p := fun p hp => (Hb.out.mono (show B ≤ w8.heap.size by omega)).cell hp
              have z0 := (hcell ⟨b, off + k * 4, none⟩ hbB).symm.trans c0
              have z1 := (hcell ⟨b, off + k * 4 + 1, none⟩ hbB).symm.trans c1
              have z2 := (hcell ⟨b, off + k * 4 + 2, none⟩ hbB).symm.trans c2
              have z3 := (hcell ⟨b, off + k * 4 + 3, none⟩ hbB).symm.trans c3
              subst q4
              have y0 := Option.some.inj ((q3 0 _ rfl).symm.trans z0)
              have y1 := Option.some.inj ((q3 1 _ rfl).symm.trans z1)
              have y2 := Option.some.inj ((q3 2 _ rfl).symm.trans z2)
              have y3 := Option.some.inj ((q3 3 _ rfl).symm.trans z3)
              exact ⟨x, s, by rw [y0, y1, y2, y3], q5, q6⟩)
            subst eA2
            have hmk : ce ∈ m.sys := List.mem_of_getElem? hku
            obtain ⟨⟨f0, f1, f2⟩, f3⟩ := box4 wr go gn gA gl2 gc hA hn hc
            have hbA := (Below.refl wr.heap.size wr).alloc (Nat.le_refl _) (.cells #[.int .i64 go, .int .i64 gn, .slice gA gl2 gc, .slice hA hn hc] 31)
            have HbA := hide (Hb.out.trans (hbA.mono hzr))
            clear hex hrs hku hbA
            by_cases hat : (k : Int) = at0
            · have hatb : ((k : Int) != at0) = false := by simp [hat]
              have Hsr2 := hide (fun (W2 : World) (hW : Below wr.heap.size wr W2) => short_keep hsr hW)
              clear hat hsr
              go_wp2_with fail
              go_roundw
              case rel => exact ⟨k + 1, l2, by omega, by go_num, HbA.out, Hsr2.out _ ((Below.refl _ _).alloc (Nat.le_refl _) _), Hmem.out, by omega⟩
              case measure => simp [intOf]; omega
            · have hatb : ((k : Int) != at0) = true := by simp [hat]
              clear hat
              have Hblk : Hid (((wr.alloc (.cells #[.int .i64 go, .int .i64 gn, .slice gA gl2 gc, .slice hA hn hc] 31)).alloc (.cells #[.int .i64 go, .int .i64 gn, .slice gA gl2 gc, .slice hA hn hc] 31)).heap[wr.heap.size + 1]? = some (.cells #[.int .i64 go, .int .i64 gn, .slice gA gl2 gc, .slice hA hn hc] 31 (0, 0))) := hide (new_at (by simp))
              rcases hsr with ⟨rfl, rfl⟩ | ⟨g2, cap2, ks2, rfl, how, hch⟩
              · go_wp2_with (at_builtin; refine wpList_append_grows _ rfl _ _ _ rfl 31 i0 _ 4 64 Try.underlying26 Hi0.out Hi1.out Hi2.out Hi3.out rfl (by omega) (some ⟨gl, 0, none⟩) 0 0 [] rfl (fun h => by cases h) rfl (fun b _ j u hu => by simp at hu) ⟨wr.heap.size + 1, 0, none⟩ 1 1 #[.int .i64 go, .int .i64 gn, .slice gA gl2 gc, .slice hA hn hc].toList rfl rfl (World.news_of_block Hblk.out) (by simp [Value.oneCell']) (by omega) (by unfold maxLen; omega) (by omega) ?_; intro v5 w5 hown5 hgrow5; obtain ⟨O5, cap5, rfl⟩ := own_slice hown5)
                have hb5 : Below w8.heap.size w8 w5 := (HbA.out.alloc (by have := HbA.out.size; simp at this ⊢; omega) _).grown hgrow5 (by simp; omega) (fun k hk => by cases hk)
                obtain ⟨g5, cap5', hv5, _⟩ := hown5.form (by omega)
                injection hv5 with hv5a hv5b hv5c
                subst hv5a
                have Hn : Hid (ShortR w8 B gl w8.heap.size w5 (.slice (some ⟨g5, 0, none⟩) 1 cap5) [ce]) := hide (.inr ⟨g5, cap5, [#[.int .i64 go, .int .i64 gn, .slice gA gl2 gc, .slice hA hn hc].toList], rfl, by
                  have := own_base (base2 := w8.heap.size) hown5 (by simp; omega)
                  simpa using this, ⟨rfl, fun ch h => by simp at h; subst h; exact ⟨rfl, by simp [Value.oneCell']⟩, fun j ch a hj ha => by
                    have hj0 : j = 0 := by
                      have := (List.getElem?_eq_some_iff.1 hj).1
                      simp at this; omega
                    subst hj0
                    simp at hj ha
                    subst hj; subst ha
                    exact Hce.out⟩⟩)
                clear hown5 hgrow5
                go_roundw
                case rel => exact ⟨k + 1, [ce], by omega, by go_num, hb5, Hn.out, fun x hx => by simp at hx; subst hx; exact hmk, by show 1 ≤ k + 1; omega⟩
                case measure => simp [intOf]; omega
              · have How := hide how
                have Hch2 := hide hch
                have hg2 : g2 < wr.heap.size ∧ w8.heap.size ≤ g2 := by
                  rcases how.2 with ⟨e1, _⟩ | ⟨g3, cap3, cur, e1, h2, h3, _⟩
                  · cases e1
                  · injection e1 with e2
                    injection e2 with e2
                    injection e2 with e2
                    subst e2
                    exact ⟨(Array.getElem?_eq_some_iff.1 h3).1, h2⟩
                clear how hch
                go_wp2_with (at_builtin; refine wpList_append_lies _ rfl _ _ _ rfl w8.heap.size 31 i0 _ 4 64 Try.underlying26 Hi0.out Hi1.out Hi2.out Hi3.out rfl (by omega) (.slice (some ⟨g2, 0, none⟩) l2.length cap2) l2.length ks2.flatten rfl ((How.out.alloc _).alloc _) ⟨wr.heap.size + 1, 0, none⟩ 1 1 #[.int .i64 go, .int .i64 gn, .slice gA gl2 gc, .slice hA hn hc].toList rfl rfl (World.news_of_block Hblk.out) (by simp [Value.oneCell']) (by omega) (by unfold maxLen; omega) (by omega) (by simp; omega) _ rfl ?_; intro g5 cap5 w5 hown5 hgrow5 hat5 hlt5)
                have hb5 : Below w8.heap.size w8 w5 := (HbA.out.alloc (by have := HbA.out.size; simp at this ⊢; omega) _).grown hgrow5 (by simp; omega) (fun k hk => by
                  have h : g2 = k := by simpa [Value.ownBlock] using hk
                  omega)
                have Hn : Hid (ShortR w8 B gl w8.heap.size w5 (.slice (some ⟨g5, 0, none⟩) (l2.length + 1) cap5) (l2 ++ [ce])) := hide (.inr ⟨g5, cap5, ks2 ++ [#[.int .i64 go, .int .i64 gn, .slice gA gl2 gc, .slice hA hn hc].toList], by simp, by
                  rw [flat_snoc]; simpa using hown5, Chunk.snoc Hch2.out rfl (by simp [Value.oneCell']) Hce.out⟩)
                clear hown5 hgrow5 hat5
                go_roundw
                case rel => exact ⟨k + 1, l2 ++ [ce], by omega, by go_num, hb5, Hn.out, fun x hx => by
                  rcases List.mem_append.1 hx with hx | hx
                  · exact Hmem.out x hx
                  · simp at hx; subst hx; exact hmk, by simp; omega⟩
                case measure => simp [intOf]; omega
          · have hlt' : ¬ ((k : Int) < (sn : Int)) := by omega
            have Hlaw1 : Hid (modE { m with sys := m.sys ++ [c] } = if 12 ≤ sn then 7 else cmdE m.vars c false) := hide (by rw [more_sys Hcm.out c, Hln.out])
            have Hlaw2 : Hid (modE { m with sys := l2 } = 0) := hide (less_sys Hcm.out Hmem.out (by rw [Hln.out]; omega))
            have Hlaw3 : Hid (cmdE m.vars c false = 0 → modS { m with sys := m.sys ++ [c] } { m with sys := m.sys ++ [c] } = true) := hide (fun h => more_same_sys Hcm.out h)
            have Hlaw4 : Hid (modS { m with sys := m.sys ++ [c] } m = false) := hide (more_other_sys m c)
            generalize cmdE m.vars c false = ev at *
            obtain ⟨U, rfl⟩ : ∃ U, U = wr := ⟨_, rfl⟩
            have Hsr := hide hsr
            obtain ⟨gs, cs, hsv, _⟩ := short_rows hsr (by omega) (Hb.out.mono (by omega)) (by omega)
            subst hsv
            clear hsr
            have Hp0U := hide (Hp08.out.of_block (Hb.out.block _ (by omega)))
            have Hp1U := hide (Hp18.out.of_block (Hb.out.block _ (by omega)))
            have Hset := hide (Hp0U.out.set 8 (.slice (some ⟨gl, 0, none⟩) (sn + 1) capl))
            have Hp1X : Hid ((U.setCell ⟨g0, 8, none⟩ (.slice (some ⟨gl, 0, none⟩) (sn + 1) capl)).rowIs g1 28 12 _) := hide (Hp1U.out.of_block (Below.heap_setCell _ _ _ _ (by show g1 ≠ g0; omega)))
            have a1 := Hp0U.out.cell (i := 8) (by omega)
            have z1 := Hp0U.out.frozen 8
            have a2 := Hp1X.out.cell (i := 8) (by omega)
            have z2 := Hp1X.out.frozen 8
            have hbX : Below N w ((U.setCell ⟨g0, 8, none⟩ (.slice (some ⟨gl, 0, none⟩) (sn + 1) capl)).setCell ⟨g1, 8, none⟩ (.slice (some ⟨gs, 0, none⟩) l2.length cs)) := ((Hb8.out.trans (Hb.out.mono (by omega))).setCell (by show N ≤ g0; omega) _).setCell (by show N ≤ g1; omega) _
            have hbB2 : Below w3.heap.size U ((U.setCell ⟨g0, 8, none⟩ (.slice (some ⟨gl, 0, none⟩) (sn + 1) capl)).setCell ⟨g1, 8, none⟩ (.slice (some ⟨gs, 0, none⟩) l2.length cs)) := ((Below.refl _ _).setCell (by exact p00) _).setCell (by exact p10) _
            have hzX : ((U.setCell ⟨g0, 8, none⟩ (.slice (some ⟨gl, 0, none⟩) (sn + 1) capl)).setCell ⟨g1, 8, none⟩ (.slice (some ⟨gs, 0, none⟩) l2.length cs)).heap.size = U.heap.size := by simp [World.setCell]
            have hzXa := Nat.le_of_eq hzX
            have hzXb := Nat.le_of_eq hzX.symm
            have HmoreRow := hide (mV_box (row_sys (s := ⟨some ⟨gl, 0, none⟩, sn + 1, capl⟩) (Hset.out.of_block (w' := (U.setCell ⟨g0, 8, none⟩ (.slice (some ⟨gl, 0, none⟩) (sn + 1) capl)).setCell ⟨g1, 8, none⟩ (.slice (some ⟨gs, 0, none⟩) l2.length cs)) (Below.heap_setCell _ _ _ _ (by show g0 ≠ g1; omega)))))
            have HlessRow := hide (mV_box (row_sys (s := ⟨some ⟨gs, 0, none⟩, l2.length, cs⟩) (Hp1X.out.set 8 (.slice (some ⟨gs, 0, none⟩) l2.length cs))))
            have HownX : Hid (((U.setCell ⟨g0, 8, none⟩ (.slice (some ⟨gl, 0, none⟩) (sn + 1) capl)).setCell ⟨g1, 8, none⟩ (.slice (some ⟨gs, 0, none⟩) l2.length cs)).ownsRow w7.heap.size 31 4 (.slice (some ⟨gl, 0, none⟩) (sn + 1) capl) (sn + 1) (ks ++ [(#[.int .i64 co, .int .i64 cn, .slice cA cl cc, .slice tA tn tc] : Array Value).toList]).flatten) := hide (by
              obtain ⟨cap', e, h⟩ := OwnR.keep (w := w8) (w' := U) (g := gl) ⟨capl, rfl, Hown8.out⟩ (Hb.out.block gl (by
                obtain ⟨_, _, hv, _, h⟩ := Hown8.out.form (by omega)
                injection hv with hv
                injection hv with hv
                injection hv with hv
                omega))
              rw [flat_snoc]
              exact ownsRow_setCell_below (ownsRow_setCell_below h (a := ⟨g0, 8, none⟩) (by show g0 < w7.heap.size; omega) _) (a := ⟨g1, 8, none⟩) (by show g1 < w7.heap.size; omega) _)
            have HsrX := hide (short_set (short_set Hsr.out (a := ⟨g0, 8, none⟩) (by show g0 < w8.heap.size; omega) (.slice (some ⟨gl, 0, none⟩) (sn + 1) capl)) (a := ⟨g1, 8, none⟩) (by show g1 < w8.heap.size; omega) (.slice (some ⟨gs, 0, none⟩) l2.length cs))
            have HrmX := hide ((Hrm8.out.below (Hb.out.mono (by omega))).below (hbB2.mono (by omega)))
            have HmX := hide ((hbB2.block N (by omega)).trans ((Hb.out.block N (by omega)).trans Hm8.out))
            have HBX := hide ((Hb.out.mono (show B ≤ w8.heap.size by omega)).trans (hbB2.mono (show B ≤ w3.heap.size by omega)))
            have HbX := hide hbX
            clear hbX hbB2 hzX Hset Hown8 Hsr Hp08 Hp18 Hp0U Hrm8 Hm8 Hb8
            obtain ⟨q0, q1, q2, q3, q4, q5, q6, q7, q8, q9, q10, q11⟩ := HmoreRow.out.all
            simp only at q0 q1 q2 q3 q4 q5 q6 q7 q8 q9 q10 q11
            by_cases h12 : 12 ≤ sn
            · have h12a : decide ((12 : Int) ≤ (sn : Int)) = true := by simp; omega
              have h12b : decide (12 ≤ sn) = true := by simp; omega
              rw [if_pos h12] at Hlaw1
              go_wp2_with fail
              clear a1 z1 a2 z2 q0 q1 q2 q3 q4 q5 q6 q7 q8 q9 q10 q11 Hp1X Hp1U
              generalize (U.setCell ⟨g0, 8, none⟩ (.slice (some ⟨gl, 0, none⟩) (sn + 1) capl)).setCell ⟨g1, 8, none⟩ (.slice (some ⟨gs, 0, none⟩) l2.length cs) = X at *
              obtain ⟨_, _, hsv, hrowsX⟩ := short_rows HsrX.out (by omega) HBX.out (by omega)
              injection hsv with hs1 hs2 hs3
              injection hs1 with hs1
              injection hs1 with hs1
              subst hs1; subst hs3
              have HlessM := hide (rm_sys (HrmX.out.more (B' := X.heap.size) (by omega)) hrowsX)
              have HmoreM := hide (rm_sys (HrmX.out.more (B' := X.heap.size) (by omega)) (own_rows (by omega) HownX.out Hch8.out (fun b o ch a _ hc hcc => ((cmd_back (hc.up HBX.out (Nat.le_refl _)) hcc).more (by omega)))))
              have HallM := hide (HrmX.out.more (B' := X.heap.size) (by omega))
              clear hrowsX HsrX HownX HrmX
              simp only at HlessM HmoreM
              refine (dmod_any X.heap.size ⟨⟨vA, vn, vc⟩, ⟨io, im, iA, il, ic⟩, ⟨jo, jm, jA, jl, jc⟩, ⟨eA, en, ec⟩, ⟨some ⟨gl, 0, none⟩, sn + 1, capl⟩, ⟨aA, an, ac⟩, ⟨nA, nn, nc⟩, ⟨pA, pn, pc⟩⟩ _ X (Nat.le_refl _) HmoreM.out).mono ?_
              rintro e x1 ⟨rfl, hb1⟩
              have hzx1 := hb1.size
              rw [Hlaw1.out]
              have HX1 := hide hb1
              obtain ⟨r0, r1, r2, r3, r4, r5, r6, r7, r8, r9, r10, r11⟩ := (HlessRow.out.below hb1 (by omega)).all
              simp only at r0 r1 r2 r3 r4 r5 r6 r7 r8 r9 r10 r11
              have hee : (ev == ev) = true := by simp
              clear hb1
              go_wp2_with fail
              clear r0 r1 r2 r3 r4 r5 r6 r7 r8 r9 r10 r11
              refine (dmod_any X.heap.size ⟨⟨vA, vn, vc⟩, ⟨io, im, iA, il, ic⟩, ⟨jo, jm, jA, jl, jc⟩, ⟨eA, en, ec⟩, ⟨some ⟨gs, 0, none⟩, l2.length, cs⟩, ⟨aA, an, ac⟩, ⟨nA, nn, nc⟩, ⟨pA, pn, pc⟩⟩ _ x1 (by omega) (HlessM.out.below HX1.out)).mono ?_
              rintro e x2 ⟨rfl, hb2⟩
              have hzx2 := hb2.size
              rw [Hlaw2.out]
              have HX2 := hide (HX1.out.trans (hb2.mono (by omega)))
              clear hb2
              by_cases hev : ev = 0
              · have hevb : (ev != 0) = false := by simp [hev]
                have Hsm := hide (Hlaw3.out hev)
                clear hev
                obtain ⟨r0, r1, r2, r3, r4, r5, r6, r7, r8, r9, r10, r11⟩ := (HmoreRow.out.below HX2.out (by omega)).all
                simp only at r0 r1 r2 r3 r4 r5 r6 r7 r8 r9 r10 r11
                go_wp2_with fail
                clear r0 r1 r2 r3 r4 r5 r6 r7 r8 r9 r10 r11
                refine (dsame_any X.heap.size ⟨⟨vA, vn, vc⟩, ⟨io, im, iA, il, ic⟩, ⟨jo, jm, jA, jl, jc⟩, ⟨eA, en, ec⟩, ⟨some ⟨gl, 0, none⟩, sn + 1, capl⟩, ⟨aA, an, ac⟩, ⟨nA, nn, nc⟩, ⟨pA, pn, pc⟩⟩ ⟨⟨vA, vn, vc⟩, ⟨io, im, iA, il, ic⟩, ⟨jo, jm, jA, jl, jc⟩, ⟨eA, en, ec⟩, ⟨some ⟨gl, 0, none⟩, sn + 1, capl⟩, ⟨aA, an, ac⟩, ⟨nA, nn, nc⟩, ⟨pA, pn, pc⟩⟩ _ _ x2 (by omega) (HmoreM.out.below HX2.out) (HmoreM.out.below HX2.out)).mono ?_
                rintro e x3 ⟨rfl, hb3⟩
                have hzx3 := hb3.size
                rw [Hsm.out]
                have HX3 := hide (HX2.out.trans (hb3.mono (by omega)))
                clear hb3
                obtain ⟨r0, r1, r2, r3, r4, r5, r6, r7, r8, r9, r10, r11⟩ := (HmoreRow.out.below HX3.out (by omega)).all
                simp only at r0 r1 r2 r3 r4 r5 r6 r7 r8 r9 r10 r11
                have k0 := blk ((HX3.out.block N (by omega)).trans HmX.out) (i := 0) rfl
                have HboxN : Hid (BoxM x3 N ⟨⟨vA, vn, vc⟩, ⟨io, im, iA, il, ic⟩, ⟨jo, jm, jA, jl, jc⟩, ⟨eA, en, ec⟩, ⟨sA, sn, sc⟩, ⟨aA, an, ac⟩, ⟨nA, nn, nc⟩, ⟨pA, pn, pc⟩⟩) := hide (fun i v hv => blk ((HX3.out.block N (by omega)).trans HmX.out) hv)
                clear k0
                obtain ⟨q0, q1, q2, q3, q4, q5, q6, q7, q8, q9, q10, q11⟩ := HboxN.out.all
                simp only at q0 q1 q2 q3 q4 q5 q6 q7 q8 q9 q10 q11
                go_wp2_with fail
                clear r0 r1 r2 r3 r4 r5 r6 r7 r8 r9 r10 r11 q0 q1 q2 q3 q4 q5 q6 q7 q8 q9 q10 q11
                refine (dsame_any X.heap.size ⟨⟨vA, vn, vc⟩, ⟨io, im, iA, il, ic⟩, ⟨jo, jm, jA, jl, jc⟩, ⟨eA, en, ec⟩, ⟨some ⟨gl, 0, none⟩, sn + 1, capl⟩, ⟨aA, an, ac⟩, ⟨nA, nn, nc⟩, ⟨pA, pn, pc⟩⟩ ⟨⟨vA, vn, vc⟩, ⟨io, im, iA, il, ic⟩, ⟨jo, jm, jA, jl, jc⟩, ⟨eA, en, ec⟩, ⟨sA, sn, sc⟩, ⟨aA, an, ac⟩, ⟨nA, nn, nc⟩, ⟨pA, pn, pc⟩⟩ _ m x3 (by omega) (HmoreM.out.below HX3.out) (HallM.out.below HX3.out)).mono ?_
                rintro e y1 ⟨rfl, hby⟩
                have hzy1 := hby.size
                rw [Hlaw4.out]
                have HY1 := hide (HX3.out.trans (hby.mono (by omega)))
                clear hby
                go_wp2_with fail
                refine (awake_any _).mono ?_
                rintro e y2 ⟨rfl, hby2⟩
                have HY2 := hide (HY1.out.trans (hby2.mono (by omega)))
                clear hby2
                go_wp2_with fail
                go_ret
                exact ⟨rfl, by rw [hN]; exact HbX.out.trans (HY2.out.mono (by have := HbX.out.size; omega))⟩
              · have hevb : (ev != 0) = true := by simp [hev]
                clear hev
                obtain ⟨r0, r1, r2, r3, r4, r5, r6, r7, r8, r9, r10, r11⟩ := (HmoreRow.out.below HX2.out (by omega)).all
                simp only at r0 r1 r2 r3 r4 r5 r6 r7 r8 r9 r10 r11
                have k0 := blk ((HX2.out.block N (by omega)).trans HmX.out) (i := 0) rfl
                have HboxN : Hid (BoxM x2 N ⟨⟨vA, vn, vc⟩, ⟨io, im, iA, il, ic⟩, ⟨jo, jm, jA, jl, jc⟩, ⟨eA, en, ec⟩, ⟨sA, sn, sc⟩, ⟨aA, an, ac⟩, ⟨nA, nn, nc⟩, ⟨pA, pn, pc⟩⟩) := hide (fun i v hv => blk ((HX2.out.block N (by omega)).trans HmX.out) hv)
                clear k0
                obtain ⟨q0, q1, q2, q3, q4, q5, q6, q7, q8, q9, q10, q11⟩ := HboxN.out.all
                simp only at q0 q1 q2 q3 q4 q5 q6 q7 q8 q9 q10 q11
                go_wp2_with fail
                clear r0 r1 r2 r3 r4 r5 r6 r7 r8 r9 r10 r11 q0 q1 q2 q3 q4 q5 q6 q7 q8 q9 q10 q11
                refine (dsame_any X.heap.size ⟨⟨vA, vn, vc⟩, ⟨io, im, iA, il, ic⟩, ⟨jo, jm, jA, jl, jc⟩, ⟨eA, en, ec⟩, ⟨some ⟨gl, 0, none⟩, sn + 1, capl⟩, ⟨aA, an, ac⟩, ⟨nA, nn, nc⟩, ⟨pA, pn, pc⟩⟩ ⟨⟨vA, vn, vc⟩, ⟨io, im, iA, il, ic⟩, ⟨jo, jm, jA, jl, jc⟩, ⟨eA, en, ec⟩, ⟨sA, sn, sc⟩, ⟨aA, an, ac⟩, ⟨nA, nn, nc⟩, ⟨pA, pn, pc⟩⟩ _ m x2 (by omega) (HmoreM.out.below HX2.out) (HallM.out.below HX2.out)).mono ?_
                rintro e y1 ⟨rfl, hby⟩
                have hzy1 := hby.size
                rw [Hlaw4.out]
                have HY1 := hide (HX2.out.trans (hby.mono (by omega)))
                clear hby
                go_wp2_with fail
                refine (awake_any _).mono ?_
                rintro e y2 ⟨rfl, hby2⟩
                have HY2 := hide (HY1.out.trans (hby2.mono (by omega)))
                clear hby2
                go_wp2_with fail
                go_ret
                exact ⟨rfl, by rw [hN]; exact HbX.out.trans (HY2.out.mono (by have := HbX.out.size; omega))⟩
            · have h12a : decide ((12 : Int) ≤ (sn : Int)) = false := by simp; omega
              have h12b : decide (12 ≤ sn) = false := by simp; omega
              rw [if_neg h12] at Hlaw1
              go_wp2_with fail
              clear a1 z1 a2 z2 q0 q1 q2 q3 q4 q5 q6 q7 q8 q9 q10 q11 Hp1X Hp1U
              generalize (U.setCell ⟨g0, 8, none⟩ (.slice (some ⟨gl, 0, none⟩) (sn + 1) capl)).setCell ⟨g1, 8, none⟩ (.slice (some ⟨gs, 0, none⟩) l2.length cs) = X at *
              obtain ⟨_, _, hsv, hrowsX⟩ := short_rows HsrX.out (by omega) HBX.out (by omega)
              injection hsv with hs1 hs2 hs3
              injection hs1 with hs1
              injection hs1 with hs1
              subst hs1; subst hs3
              have HlessM := hide (rm_sys (HrmX.out.more (B' := X.heap.size) (by omega)) hrowsX)
              have HmoreM := hide (rm_sys (HrmX.out.more (B' := X.heap.size) (by omega)) (own_rows (by omega) HownX.out Hch8.out (fun b o ch a _ hc hcc => ((cmd_back (hc.up HBX.out (Nat.le_refl _)) hcc).more (by omega)))))
              have HallM := hide (HrmX.out.more (B' := X.heap.size) (by omega))
              clear hrowsX HsrX HownX HrmX
              simp only at HlessM HmoreM
              refine (dmod_any X.heap.size ⟨⟨vA, vn, vc⟩, ⟨io, im, iA, il, ic⟩, ⟨jo, jm, jA, jl, jc⟩, ⟨eA, en, ec⟩, ⟨some ⟨gl, 0, none⟩, sn + 1, capl⟩, ⟨aA, an, ac⟩, ⟨nA, nn, nc⟩, ⟨pA, pn, pc⟩⟩ _ X (Nat.le_refl _) HmoreM.out).mono ?_
              rintro e x1 ⟨rfl, hb1⟩
              have hzx1 := hb1.size
              rw [Hlaw1.out]
              have HX1 := hide hb1
              obtain ⟨r0, r1, r2, r3, r4, r5, r6, r7, r8, r9, r10, r11⟩ := (HlessRow.out.below hb1 (by omega)).all
              simp only at r0 r1 r2 r3 r4 r5 r6 r7 r8 r9 r10 r11
              have hee : (ev == ev) = true := by simp
              clear hb1
              go_wp2_with fail
              clear r0 r1 r2 r3 r4 r5 r6 r7 r8 r9 r10 r11
              refine (dmod_any X.heap.size ⟨⟨vA, vn, vc⟩, ⟨io, im, iA, il, ic⟩, ⟨jo, jm, jA, jl, jc⟩, ⟨eA, en, ec⟩, ⟨some ⟨gs, 0, none⟩, l2.length, cs⟩, ⟨aA, an, ac⟩, ⟨nA, nn, nc⟩, ⟨pA, pn, pc⟩⟩ _ x1 (by omega) (HlessM.out.below HX1.out)).mono ?_
              rintro e x2 ⟨rfl, hb2⟩
              have hzx2 := hb2.size
              rw [Hlaw2.out]
              have HX2 := hide (HX1.out.trans (hb2.mono (by omega)))
              clear hb2
              by_cases hev : ev = 0
              · have hevb : (ev != 0) = false := by simp [hev]
                have Hsm := hide (Hlaw3.out hev)
                clear hev
                obtain ⟨r0, r1, r2, r3, r4, r5, r6, r7, r8, r9, r10, r11⟩ := (HmoreRow.out.below HX2.out (by omega)).all
                simp only at r0 r1 r2 r3 r4 r5 r6 r7 r8 r9 r10 r11
                go_wp2_with fail
                clear r0 r1 r2 r3 r4 r5 r6 r7 r8 r9 r10 r11
                refine (dsame_any X.heap.size ⟨⟨vA, vn, vc⟩, ⟨io, im, iA, il, ic⟩, ⟨jo, jm, jA, jl, jc⟩, ⟨eA, en, ec⟩, ⟨some ⟨gl, 0, none⟩, sn + 1, capl⟩, ⟨aA, an, ac⟩, ⟨nA, nn, nc⟩, ⟨pA, pn, pc⟩⟩ ⟨⟨vA, vn, vc⟩, ⟨io, im, iA, il, ic⟩, ⟨jo, jm, jA, jl, jc⟩, ⟨eA, en, ec⟩, ⟨some ⟨gl, 0, none⟩, sn + 1, capl⟩, ⟨aA, an, ac⟩, ⟨nA, nn, nc⟩, ⟨pA, pn, pc⟩⟩ _ _ x2 (by omega) (HmoreM.out.below HX2.out) (HmoreM.out.below HX2.out)).mono ?_
                rintro e x3 ⟨rfl, hb3⟩
                have hzx3 := hb3.size
                rw [Hsm.out]
                have HX3 := hide (HX2.out.trans (hb3.mono (by omega)))
                clear hb3
                obtain ⟨r0, r1, r2, r3, r4, r5, r6, r7, r8, r9, r10, r11⟩ := (HmoreRow.out.below HX3.out (by omega)).all
                simp only at r0 r1 r2 r3 r4 r5 r6 r7 r8 r9 r10 r11
                have k0 := blk ((HX3.out.block N (by omega)).trans HmX.out) (i := 0) rfl
                have HboxN : Hid (BoxM x3 N ⟨⟨vA, vn, vc⟩, ⟨io, im, iA, il, ic⟩, ⟨jo, jm, jA, jl, jc⟩, ⟨eA, en, ec⟩, ⟨sA, sn, sc⟩, ⟨aA, an, ac⟩, ⟨nA, nn, nc⟩, ⟨pA, pn, pc⟩⟩) := hide (fun i v hv => blk ((HX3.out.block N (by omega)).trans HmX.out) hv)
                clear k0
                obtain ⟨q0, q1, q2, q3, q4, q5, q6, q7, q8, q9, q10, q11⟩ := HboxN.out.all
                simp only at q0 q1 q2 q3 q4 q5 q6 q7 q8 q9 q10 q11
                go_wp2_with fail
                clear r0 r1 r2 r3 r4 r5 r6 r7 r8 r9 r10 r11 q0 q1 q2 q3 q4 q5 q6 q7 q8 q9 q10 q11
                refine (dsame_any X.heap.size ⟨⟨vA, vn, vc⟩, ⟨io, im, iA, il, ic⟩, ⟨jo, jm, jA, jl, jc⟩, ⟨eA, en, ec⟩, ⟨some ⟨gl, 0, none⟩, sn + 1, capl⟩, ⟨aA, an, ac⟩, ⟨nA, nn, nc⟩, ⟨pA, pn, pc⟩⟩ ⟨⟨vA, vn, vc⟩, ⟨io, im, iA, il, ic⟩, ⟨jo, jm, jA, jl, jc⟩, ⟨eA, en, ec⟩, ⟨sA, sn, sc⟩, ⟨aA, an, ac⟩, ⟨nA, nn, nc⟩, ⟨pA, pn, pc⟩⟩ _ m x3 (by omega) (HmoreM.out.below HX3.out) (HallM.out.below HX3.out)).mono ?_
                rintro e y1 ⟨rfl, hby⟩
                have hzy1 := hby.size
                rw [Hlaw4.out]
                have HY1 := hide (HX3.out.trans (hby.mono (by omega)))
                clear hby
                go_wp2_with fail
                refine (awake_any _).mono ?_
                rintro e y2 ⟨rfl, hby2⟩
                have HY2 := hide (HY1.out.trans (hby2.mono (by omega)))
                clear hby2
                go_wp2_with fail
                go_ret
                exact ⟨rfl, by rw [hN]; exact HbX.out.trans (HY2.out.mono (by have := HbX.out.size; omega))⟩
              · have hevb : (ev != 0) = true := by simp [hev]
                clear hev
                obtain ⟨r0, r1, r2, r3, r4, r5, r6, r7, r8, r9, r10, r11⟩ := (HmoreRow.out.below HX2.out (by omega)).all
                simp only at r0 r1 r2 r3 r4 r5 r6 r7 r8 r9 r10 r11
                have k0 := blk ((HX2.out.block N (by omega)).trans HmX.out) (i := 0) rfl
                have HboxN : Hid (BoxM x2 N ⟨⟨vA, vn, vc⟩, ⟨io, im, iA, il, ic⟩, ⟨jo, jm, jA, jl, jc⟩, ⟨eA, en, ec⟩, ⟨sA, sn, sc⟩, ⟨aA, an, ac⟩, ⟨nA, nn, nc⟩, ⟨pA, pn, pc⟩⟩) := hide (fun i v hv => blk ((HX2.out.block N (by omega)).trans HmX.out) hv)
                clear k0
                obtain ⟨q0, q1, q2, q3, q4, q5, q6, q7, q8, q9, q10, q11⟩ := HboxN.out.all
                simp only at q0 q1 q2 q3 q4 q5 q6 q7 q8 q9 q10 q11
                go_wp2_with fail
                clear r0 r1 r2 r3 r4 r5 r6 r7 r8 r9 r10 r11 q0 q1 q2 q3 q4 q5 q6 q7 q8 q9 q10 q11
                refine (dsame_any X.heap.size ⟨⟨vA, vn, vc⟩, ⟨io, im, iA, il, ic⟩, ⟨jo, jm, jA, jl, jc⟩, ⟨eA, en, ec⟩, ⟨some ⟨gl, 0, none⟩, sn + 1, capl⟩, ⟨aA, an, ac⟩, ⟨nA, nn, nc⟩, ⟨pA, pn, pc⟩⟩ ⟨⟨vA, vn, vc⟩, ⟨io, im, iA, il, ic⟩, ⟨jo, jm, jA, jl, jc⟩, ⟨eA, en, ec⟩, ⟨sA, sn, sc⟩, ⟨aA, an, ac⟩, ⟨nA, nn, nc⟩, ⟨pA, pn, pc⟩⟩ _ m x2 (by omega) (HmoreM.out.below HX2.out) (HallM.out.below HX2.out)).mono ?_
                rintro e y1 ⟨rfl, hby⟩
                have hzy1 := hby.size
                rw [Hlaw4.out]
                have HY1 := hide (HX2.out.trans (hby.mono (by omega)))
                clear hby
                go_wp2_with fail
                refine (awake_any _).mono ?_
                rintro e y2 ⟨rfl, hby2⟩
                have HY2 := hide (HY1.out.trans (hby2.mono (by omega)))
                clear hby2
                go_wp2_with fail
                go_ret
                exact ⟨rfl, by rw [hN]; exact HbX.out.trans (HY2.out.mono (by have := HbX.out.size; omega))⟩
      · have Hev : Hid (cmdE m.vars c true = cmdE m.vars c true) := hide rfl
        go_wp2_with fail
        clear k7 k8
        obtain ⟨ks, hch, hcells⟩ := cmds_cells (Hrm7.out.2.2.2.2.1)
        have Hch := hide hch
        have Hcells := hide hcells
        have Hlen : Hid (ks.flatten.length = en * 4) := hide (by rw [hch.len]; rw [show m.env.length = en from Hrm7.out.2.2.2.2.1.1])
        clear hch hcells
        refine long_region (b := N + 1) (y := ⟨⟨co, cn, cA, cl, cc⟩, ⟨tA, tn, tc⟩⟩) (xs := ks.flatten) (by kernel_rfl) (by kernel_rfl) (by kernel_rfl) (by kernel_rfl) ⟨_, _, _, rfl⟩ ⟨_, _, _, rfl⟩ ⟨_, _, _, rfl⟩ ⟨_, _, _, rfl⟩ ⟨_, _, _, rfl⟩ ⟨_, _, _, rfl⟩ ⟨_, _, _, rfl⟩ (by simp) rfl rfl Hc7.out (by omega) Hlen.out (fun e => rows_nil (Hrm7.out.2.2.2.2.1) e) Hcells.out Hch.out.one (by omega) ?_
        intro u gl capl w8 hu hown8 hb8
        rw [sel_cons, sel_cons, sel_cons, sel_cons, sel_cons, sel_cons, sel_cons, sel_nil, hu]
        generalize u 46 = u46
        generalize u 47 = u47
        generalize u 48 = u48
        generalize u 49 = u49
        generalize u 50 = u50
        generalize u 51 = u51
        clear hu u
        have hz8 := hb8.size
        have Hown8 := hide hown8
        have Hp08 := hide (Hp07.out.of_block (hb8.block _ (by omega)))
        have Hp18 := hide (Hp17.out.of_block (hb8.block _ (by omega)))
        have Hrm8 := hide (Hrm7.out.below (hb8.mono (by omega)))
        have Hrc8 := hide (Hrc7.out.below (hb8.mono (by omega)))
        have Hm8 := hide ((hb8.block N (by omega)).trans Hm7.out)
        have Hb8 := hide (Hb7.out.trans (hb8.mono (by omega)))
        have Hch8 : Hid (Chunk 4 (CmdC w8 B) (ks ++ [#[.int .i64 co, .int .i64 cn, .slice cA cl cc, .slice tA tn tc].toList]) (m.env ++ [c])) := hide ((Chunk.snoc (a := c) Hch.out (ch := #[.int .i64 co, .int .i64 cn, .slice cA cl cc, .slice tA tn tc].toList) rfl (by simp [Value.oneCell']) ⟨⟨co, cn, cA, cl, cc⟩, ⟨tA, tn, tc⟩, rfl, Hrc7.out.1, Hrc7.out.2⟩).turn (fun ch a h => h.up (hb8.mono (by omega)) (Nat.le_refl _)))
        have hcapl : en + 1 ≤ capl := by
          rcases hown8.2 with ⟨e1, _⟩ | ⟨g2, cap2, cur, e1, _, _, h2, _⟩
          · cases e1
          · injection e1 with _ _ e3; subst e3; exact h2
        have hcapm : capl ≤ 2 ^ 63 - 1 := by
          rcases hown8.2 with ⟨e1, _⟩ | ⟨g2, cap2, cur, e1, _, _, _, h2, _⟩
          · cases e1
          · injection e1 with _ _ e3; subst e3; exact h2
        clear hown8 hb8 Hp07 Hp17 Hrm7 Hrc7 Hm7 Hc7 Hb7 Hch Hcells Hlen
        go_simp
        go_wp2_with fail

        obtain ⟨i0, hi0, hi1, hi2, hi3⟩ := info_parts infoC
        have Hi0 := hide hi0; have Hi1 := hide hi1; have Hi2 := hide hi2; have Hi3 := hide hi3
        clear hi0 hi1 hi2 hi3
        have Hln : Hid (m.env.length = en) := hide Hrm8.out.2.2.2.2.1.1
        go_loopw [15, 56] (fun sv i wr => ∃ (k : Nat) (l2 : List CT), k ≤ en ∧ i = .int .i64 k ∧ Below w8.heap.size w8 wr ∧ ShortR w8 B gl w8.heap.size wr sv l2 ∧ (∀ x ∈ l2, x ∈ m.env) ∧ l2.length ≤ k) (fun _ i _ => en - (intOf i).toNat)
        case atStart => exact ⟨0, [], by omega, rfl, Below.refl _ _, .inl ⟨rfl, rfl⟩, fun x h => by simp at h, Nat.le_refl _⟩
        case round =>
          obtain ⟨k, l2, hk, rfl, hb, hsr, hmem, hl2⟩ := hrel
          have hzr := hb.size
          have Hb := hide hb
          have Hmem := hide hmem
          clear hb hmem
          by_cases hlt : k < en
          · have hlt' : ((k : Int) < (en : Int)) := by omega
            obtain ⟨b, off, ce, eA2, hbB, hku, ⟨⟨⟨go, gn, gA, gl2, gc⟩, ⟨c0, c1, c2⟩, hex⟩, ⟨hA, hn, hc⟩, c3, hrs⟩⟩ := ((Hrm8.out.below (Hb.out.mono (by omega))).2.2.2.2.1).at_ (k := k) hlt
            simp only [SL.v] at eA2 c0 c1 c2 c3
            have Hce : Hid (CmdC w8 B #[.int .i64 go, .int .i64 gn, .slice gA gl2 gc, .slice hA hn hc].toList ce) := hide (by
              obtain ⟨ch, q1, q2, q3, x, s, q4, q5, q6⟩ := cmd_cells (w := w8) (B := B) (b := b) (off + k * 4) ce (by
                obtain ⟨b', off', ce', eA3, _, hku', hcm⟩ := Hrm8.out.2.2.2.2.1.at_ (k := k) hlt
                simp only at eA2 eA3
                rw [eA2] at eA3
                injection eA3 with eA3
                injection eA3 with e1 e2
                subst e1; subst e2
                rw [hku] at hku'
                obtain rfl := Option.some.inj hku'
                exact hcm)
              have hcell : ∀ p : Addr, p.block < B → wr.cell? p = w8.cell? p := fun p hp => (Hb.out.mono (show B ≤ w8.heap.size by omega)).cell hp
              have z0 := (hcell ⟨b, off + k * 4, none⟩ hbB).symm.trans c0
              have z1 := (hcell ⟨b, off + k * 4 + 1, none⟩ hbB).symm.trans c1
              have z2 := (hcell ⟨b, off + k * 4 + 2, none⟩ hbB).symm.trans c2
              have z3 := (hcell ⟨b, off + k * 4 + 3, none⟩ hbB).symm.trans c3
              subst q4
              have y0 := Option.some.inj ((q3 0 _ rfl).symm.trans z0)
              have y1 := Option.some.inj ((q3 1 _ rfl).symm.trans z1)
              have y2 := Option.some.inj ((q3 2 _ rfl).symm.trans z2)
              have y3 := Option.some.inj ((q3 3 _ rfl).symm.trans z3)
              exact ⟨x, s, by rw [y0, y1, y2, y3], q5, q6⟩)
            subst eA2
            have hmk : ce ∈ m.env := List.mem_of_getElem? hku
            obtain ⟨⟨f0, f1, f2⟩, f3⟩ := box4 wr go gn gA gl2 gc hA hn hc
            have hbA := (Below.refl wr.heap.size wr).alloc (Nat.le_refl _) (.cells #[.int .i64 go, .int .i64 gn, .slice gA gl2 gc, .slice hA hn hc] 31)
            have HbA := hide (Hb.out.trans (hbA.mono hzr))
            clear hex hrs hku hbA
            by_cases hat : (k : Int) = at0
            · have hatb : ((k : Int) != at0) = false := by simp [hat]
              have Hsr2 := hide (fun (W2 : World) (hW : Below wr.heap.size wr W2) => short_keep hsr hW)
              clear hat hsr
              go_wp2_with fail
              go_roundw
              case rel => exact ⟨k + 1, l2, by omega, by go_num, HbA.out, Hsr2.out _ ((Below.refl _ _).alloc (Nat.le_refl _) _), Hmem.out, by omega⟩
              case measure => simp [intOf]; omega
            · have hatb : ((k : Int) != at0) = true := by simp [hat]
              clear hat
              have Hblk : Hid (((wr.alloc (.cells #[.int .i64 go, .int .i64 gn, .slice gA gl2 gc, .slice hA hn hc] 31)).alloc (.cells #[.int .i64 go, .int .i64 gn, .slice gA gl2 gc, .slice hA hn hc] 31)).heap[wr.heap.size + 1]? = some (.cells #[.int .i64 go, .int .i64 gn, .slice gA gl2 gc, .slice hA hn hc] 31 (0, 0))) := hide (new_at (by simp))
              rcases hsr with ⟨rfl, rfl⟩ | ⟨g2, cap2, ks2, rfl, how, hch⟩
              · go_wp2_with (at_builtin; refine wpList_append_grows _ rfl _ _ _ rfl 31 i0 _ 4 64 Try.underlying26 Hi0.out Hi1.out Hi2.out Hi3.out rfl (by omega) (some ⟨gl, 0, none⟩) 0 0 [] rfl (fun h => by cases h) rfl (fun b _ j u hu => by simp at hu) ⟨wr.heap.size + 1, 0, none⟩ 1 1 #[.int .i64 go, .int .i64 gn, .slice gA gl2 gc, .slice hA hn hc].toList rfl rfl (World.news_of_block Hblk.out) (by simp [Value.oneCell']) (by omega) (by unfold maxLen; omega) (by omega) ?_; intro v5 w5 hown5 hgrow5; obtain ⟨O5, cap5, rfl⟩ := own_slice hown5)
                have hb5 : Below w8.heap.size w8 w5 := (HbA.out.alloc (by have := HbA.out.size; simp at this ⊢; omega) _).grown hgrow5 (by simp; omega) (fun k hk => by cases hk)
                obtain ⟨g5, cap5', hv5, _⟩ := hown5.form (by omega)
                injection hv5 with hv5a hv5b hv5c
                subst hv5a
                have Hn : Hid (ShortR w8 B gl w8.heap.size w5 (.slice (some ⟨g5, 0, none⟩) 1 cap5) [ce]) := hide (.inr ⟨g5, cap5, [#[.int .i64 go, .int .i64 gn, .slice gA gl2 gc, .slice hA hn hc].toList], rfl, by
                  have := own_base (base2 := w8.heap.size) hown5 (by simp; omega)
                  simpa using this, ⟨rfl, fun ch h => by simp at h; subst h; exact ⟨rfl, by simp [Value.oneCell']⟩, fun j ch a hj ha => by
                    have hj0 : j = 0 := by
                      have := (List.getElem?_eq_some_iff.1 hj).1
                      simp at this; omega
                    subst hj0
                    simp at hj ha
                    subst hj; subst ha
                    exact Hce.out⟩⟩)
                clear hown5 hgrow5
                go_roundw
                case rel => exact ⟨k + 1, [ce], by omega, by go_num, hb5, Hn.out, fun x hx => by simp at hx; subst hx; exact hmk, by show 1 ≤ k + 1; omega⟩
                case measure => simp [intOf]; omega
              · have How := hide how
                have Hch2 := hide hch
                have hg2 : g2 < wr.heap.size ∧ w8.heap.size ≤ g2 := by
                  rcases how.2 with ⟨e1, _⟩ | ⟨g3, cap3, cur, e1, h2, h3, _⟩
                  · cases e1
                  · injection e1 with e2
                    injection e2 with e2
                    injection e2 with e2
                    subst e2
                    exact ⟨(Array.getElem?_eq_some_iff.1 h3).1, h2⟩
                clear how hch
                go_wp2_with (at_builtin; refine wpList_append_lies _ rfl _ _ _ rfl w8.heap.size 31 i0 _ 4 64 Try.underlying26 Hi0.out Hi1.out Hi2.out Hi3.out rfl (by omega) (.slice (some ⟨g2, 0, none⟩) l2.length cap2) l2.length ks2.flatten rfl ((How.out.alloc _).alloc _) ⟨wr.heap.size + 1, 0, none⟩ 1 1 #[.int .i64 go, .int .i64 gn, .slice gA gl2 gc, .slice hA hn hc].toList rfl rfl (World.news_of_block Hblk.out) (by simp [Value.oneCell']) (by omega) (by unfold maxLen; omega) (by omega) (by simp; omega) _ rfl ?_; intro g5 cap5 w5 hown5 hgrow5 hat5 hlt5)
                have hb5 : Below w8.heap.size w8 w5 := (HbA.out.alloc (by have := HbA.out.size; simp at this ⊢; omega) _).grown hgrow5 (by simp; omega) (fun k hk => by
                  have h : g2 = k := by simpa [Value.ownBlock] using hk
                  omega)
                have Hn : Hid (ShortR w8 B gl w8.heap.size w5 (.slice (some ⟨g5, 0, none⟩) (l2.length + 1) cap5) (l2 ++ [ce])) := hide (.inr ⟨g5, cap5, ks2 ++ [#[.int .i64 go, .int .i64 gn, .slice gA gl2 gc, .slice hA hn hc].toList], by simp, by
                  rw [flat_snoc]; simpa using hown5, Chunk.snoc Hch2.out rfl (by simp [Value.oneCell']) Hce.out⟩)
                clear hown5 hgrow5 hat5
                go_roundw
                case rel => exact ⟨k + 1, l2 ++ [ce], by omega, by go_num, hb5, Hn.out, fun x hx => by
                  rcases List.mem_append.1 hx with hx | hx
                  · exact Hmem.out x hx
                  · simp at hx; subst hx; exact hmk, by simp; omega⟩
                case measure => simp [intOf]; omega
          · have hlt' : ¬ ((k : Int) < (en : Int)) := by omega
            have Hlaw1 : Hid (modE { m with env := m.env ++ [c] } = if 12 ≤ en then 7 else cmdE m.vars c true) := hide (by rw [more_env Hcm.out c, Hln.out])
            have Hlaw2 : Hid (modE { m with env := l2 } = 0) := hide (less_env Hcm.out Hmem.out (by rw [Hln.out]; omega))
            have Hlaw3 : Hid (cmdE m.vars c true = 0 → modS { m with env := m.env ++ [c] } { m with env := m.env ++ [c] } = true) := hide (fun h => more_same_env Hcm.out h)
            have Hlaw4 : Hid (modS { m with env := m.env ++ [c] } m = false) := hide (more_other_env m c)
            generalize cmdE m.vars c true = ev at *
            obtain ⟨U, rfl⟩ : ∃ U, U = wr := ⟨_, rfl⟩
            have Hsr := hide hsr
            obtain ⟨gs, cs, hsv, _⟩ := short_rows hsr (by omega) (Hb.out.mono (by omega)) (by omega)
            subst hsv
            clear hsr
            have Hp0U := hide (Hp08.out.of_block (Hb.out.block _ (by omega)))
            have Hp1U := hide (Hp18.out.of_block (Hb.out.block _ (by omega)))
            have Hset := hide (Hp0U.out.set 7 (.slice (some ⟨gl, 0, none⟩) (en + 1) capl))
            have Hp1X : Hid ((U.setCell ⟨g0, 7, none⟩ (.slice (some ⟨gl, 0, none⟩) (en + 1) capl)).rowIs g1 28 12 _) := hide (Hp1U.out.of_block (Below.heap_setCell _ _ _ _ (by show g1 ≠ g0; omega)))
            have a1 := Hp0U.out.cell (i := 7) (by omega)
            have z1 := Hp0U.out.frozen 7
            have a2 := Hp1X.out.cell (i := 7) (by omega)
            have z2 := Hp1X.out.frozen 7
            have hbX : Below N w ((U.setCell ⟨g0, 7, none⟩ (.slice (some ⟨gl, 0, none⟩) (en + 1) capl)).setCell ⟨g1, 7, none⟩ (.slice (some ⟨gs, 0, none⟩) l2.length cs)) := ((Hb8.out.trans (Hb.out.mono (by omega))).setCell (by show N ≤ g0; omega) _).setCell (by show N ≤ g1; omega) _
            have hbB2 : Below w3.heap.size U ((U.setCell ⟨g0, 7, none⟩ (.slice (some ⟨gl, 0, none⟩) (en + 1) capl)).setCell ⟨g1, 7, none⟩ (.slice (some ⟨gs, 0, none⟩) l2.length cs)) := ((Below.refl _ _).setCell (by exact p00) _).setCell (by exact p10) _
            have hzX : ((U.setCell ⟨g0, 7, none⟩ (.slice (some ⟨gl, 0, none⟩) (en + 1) capl)).setCell ⟨g1, 7, none⟩ (.slice (some ⟨gs, 0, none⟩) l2.length cs)).heap.size = U.heap.size := by simp [World.setCell]
            have hzXa := Nat.le_of_eq hzX
            have hzXb := Nat.le_of_eq hzX.symm
            have HmoreRow := hide (mV_box (row_env (s := ⟨some ⟨gl, 0, none⟩, en + 1, capl⟩) (Hset.out.of_block (w' := (U.setCell ⟨g0, 7, none⟩ (.slice (some ⟨gl, 0, none⟩) (en + 1) capl)).setCell ⟨g1, 7, none⟩ (.slice (some ⟨gs, 0, none⟩) l2.length cs)) (Below.heap_setCell _ _ _ _ (by show g0 ≠ g1; omega)))))
            have HlessRow := hide (mV_box (row_env (s := ⟨some ⟨gs, 0, none⟩, l2.length, cs⟩) (Hp1X.out.set 7 (.slice (some ⟨gs, 0, none⟩) l2.length cs))))
            have HownX : Hid (((U.setCell ⟨g0, 7, none⟩ (.slice (some ⟨gl, 0, none⟩) (en + 1) capl)).setCell ⟨g1, 7, none⟩ (.slice (some ⟨gs, 0, none⟩) l2.length cs)).ownsRow w7.heap.size 31 4 (.slice (some ⟨gl, 0, none⟩) (en + 1) capl) (en + 1) (ks ++ [(#[.int .i64 co, .int .i64 cn, .slice cA cl cc, .slice tA tn tc] : Array Value).toList]).flatten) := hide (by
              obtain ⟨cap', e, h⟩ := OwnR.keep (w := w8) (w' := U) (g := gl) ⟨capl, rfl, Hown8.out⟩ (Hb.out.block gl (by
                obtain ⟨_, _, hv, _, h⟩ := Hown8.out.form (by omega)
                injection hv with hv
                injection hv with hv
                injection hv with hv
                omega))
              rw [flat_snoc]
              exact ownsRow_setCell_below (ownsRow_setCell_below h (a := ⟨g0, 7, none⟩) (by show g0 < w7.heap.size; omega) _) (a := ⟨g1, 7, none⟩) (by show g1 < w7.heap.size; omega) _)
            have HsrX := hide (short_set (short_set Hsr.out (a := ⟨g0, 7, none⟩) (by show g0 < w8.heap.size; omega) (.slice (some ⟨gl, 0, none⟩) (en + 1) capl)) (a := ⟨g1, 7, none⟩) (by show g1 < w8.heap.size; omega) (.slice (some ⟨gs, 0, none⟩) l2.length cs))
            have HrmX := hide ((Hrm8.out.below (Hb.out.mono (by omega))).below (hbB2.mono (by omega)))
            have HmX := hide ((hbB2.block N (by omega)).trans ((Hb.out.block N (by omega)).trans Hm8.out))
            have HBX := hide ((Hb.out.mono (show B ≤ w8.heap.size by omega)).trans (hbB2.mono (show B ≤ w3.heap.size by omega)))
            have HbX := hide hbX
            clear hbX hbB2 hzX Hset Hown8 Hsr Hp08 Hp18 Hp0U Hrm8 Hm8 Hb8
            obtain ⟨q0, q1, q2, q3, q4, q5, q6, q7, q8, q9, q10, q11⟩ := HmoreRow.out.all
            simp only at q0 q1 q2 q3 q4 q5 q6 q7 q8 q9 q10 q11
            by_cases h12 : 12 ≤ en
            · have h12a : decide ((12 : Int) ≤ (en : Int)) = true := by simp; omega
              have h12b : decide (12 ≤ en) = true := by simp; omega
              rw [if_pos h12] at Hlaw1
              go_wp2_with fail
              clear a1 z1 a2 z2 q0 q1 q2 q3 q4 q5 q6 q7 q8 q9 q10 q11 Hp1X Hp1U
              generalize (U.setCell ⟨g0, 7, none⟩ (.slice (some ⟨gl, 0, none⟩) (en + 1) capl)).setCell ⟨g1, 7, none⟩ (.slice (some ⟨gs, 0, none⟩) l2.length cs) = X at *
              obtain ⟨_, _, hsv, hrowsX⟩ := short_rows HsrX.out (by omega) HBX.out (by omega)
              injection hsv with hs1 hs2 hs3
              injection hs1 with hs1
              injection hs1 with hs1
              subst hs1; subst hs3
              have HlessM := hide (rm_env (HrmX.out.more (B' := X.heap.size) (by omega)) hrowsX)
              have HmoreM := hide (rm_env (HrmX.out.more (B' := X.heap.size) (by omega)) (own_rows (by omega) HownX.out Hch8.out (fun b o ch a _ hc hcc => ((cmd_back (hc.up HBX.out (Nat.le_refl _)) hcc).more (by omega)))))
              have HallM := hide (HrmX.out.more (B' := X.heap.size) (by omega))
              clear hrowsX HsrX HownX HrmX
              simp only at HlessM HmoreM
              refine (dmod_any X.heap.size ⟨⟨vA, vn, vc⟩, ⟨io, im, iA, il, ic⟩, ⟨jo, jm, jA, jl, jc⟩, ⟨some ⟨gl, 0, none⟩, en + 1, capl⟩, ⟨sA, sn, sc⟩, ⟨aA, an, ac⟩, ⟨nA, nn, nc⟩, ⟨pA, pn, pc⟩⟩ _ X (Nat.le_refl _) HmoreM.out).mono ?_
              rintro e x1 ⟨rfl, hb1⟩
              have hzx1 := hb1.size
              rw [Hlaw1.out]
              have HX1 := hide hb1
              obtain ⟨r0, r1, r2, r3, r4, r5, r6, r7, r8, r9, r10, r11⟩ := (HlessRow.out.below hb1 (by omega)).all
              simp only at r0 r1 r2 r3 r4 r5 r6 r7 r8 r9 r10 r11
              have hee : (ev == ev) = true := by simp
              clear hb1
              go_wp2_with fail
              clear r0 r1 r2 r3 r4 r5 r6 r7 r8 r9 r10 r11
              refine (dmod_any X.heap.size ⟨⟨vA, vn, vc⟩, ⟨io, im, iA, il, ic⟩, ⟨jo, jm, jA, jl, jc⟩, ⟨some ⟨gs, 0, none⟩, l2.length, cs⟩, ⟨sA, sn, sc⟩, ⟨aA, an, ac⟩, ⟨nA, nn, nc⟩, ⟨pA, pn, pc⟩⟩ _ x1 (by omega) (HlessM.out.below HX1.out)).mono ?_
              rintro e x2 ⟨rfl, hb2⟩
              have hzx2 := hb2.size
              rw [Hlaw2.out]
              have HX2 := hide (HX1.out.trans (hb2.mono (by omega)))
              clear hb2
              by_cases hev : ev = 0
              · have hevb : (ev != 0) = false := by simp [hev]
                have Hsm := hide (Hlaw3.out hev)
                clear hev
                obtain ⟨r0, r1, r2, r3, r4, r5, r6, r7, r8, r9, r10, r11⟩ := (HmoreRow.out.below HX2.out (by omega)).all
                simp only at r0 r1 r2 r3 r4 r5 r6 r7 r8 r9 r10 r11
                go_wp2_with fail
                clear r0 r1 r2 r3 r4 r5 r6 r7 r8 r9 r10 r11
                refine (dsame_any X.heap.size ⟨⟨vA, vn, vc⟩, ⟨io, im, iA, il, ic⟩, ⟨jo, jm, jA, jl, jc⟩, ⟨some ⟨gl, 0, none⟩, en + 1, capl⟩, ⟨sA, sn, sc⟩, ⟨aA, an, ac⟩, ⟨nA, nn, nc⟩, ⟨pA, pn, pc⟩⟩ ⟨⟨vA, vn, vc⟩, ⟨io, im, iA, il, ic⟩, ⟨jo, jm, jA, jl, jc⟩, ⟨some ⟨gl, 0, none⟩, en + 1, capl⟩, ⟨sA, sn, sc⟩, ⟨aA, an, ac⟩, ⟨nA, nn, nc⟩, ⟨pA, pn, pc⟩⟩ _ _ x2 (by omega) (HmoreM.out.below HX2.out) (HmoreM.out.below HX2.out)).mono ?_
                rintro e x3 ⟨rfl, hb3⟩
                have hzx3 := hb3.size
                rw [Hsm.out]
                have HX3 := hide (HX2.out.trans (hb3.mono (by omega)))
                clear hb3
                obtain ⟨r0, r1, r2, r3, r4, r5, r6, r7, r8, r9, r10, r11⟩ := (HmoreRow.out.below HX3.out (by omega)).all
                simp only at r0 r1 r2 r3 r4 r5 r6 r7 r8 r9 r10 r11
                have k0 := blk ((HX3.out.block N (by omega)).trans HmX.out) (i := 0) rfl
                have HboxN : Hid (BoxM x3 N ⟨⟨vA, vn, vc⟩, ⟨io, im, iA, il, ic⟩, ⟨jo, jm, jA, jl, jc⟩, ⟨eA, en, ec⟩, ⟨sA, sn, sc⟩, ⟨aA, an, ac⟩, ⟨nA, nn, nc⟩, ⟨pA, pn, pc⟩⟩) := hide (fun i v hv => blk ((HX3.out.block N (by omega)).trans HmX.out) hv)
                clear k0
                obtain ⟨q0, q1, q2, q3, q4, q5, q6, q7, q8, q9, q10, q11⟩ := HboxN.out.all
                simp only at q0 q1 q2 q3 q4 q5 q6 q7 q8 q9 q10 q11
                go_wp2_with fail
                clear r0 r1 r2 r3 r4 r5 r6 r7 r8 r9 r10 r11 q0 q1 q2 q3 q4 q5 q6 q7 q8 q9 q10 q11
                refine (dsame_any X.heap.size ⟨⟨vA, vn, vc⟩, ⟨io, im, iA, il, ic⟩, ⟨jo, jm, jA, jl, jc⟩, ⟨some ⟨gl, 0, none⟩, en + 1, capl⟩, ⟨sA, sn, sc⟩, ⟨aA, an, ac⟩, ⟨nA, nn, nc⟩, ⟨pA, pn, pc⟩⟩ ⟨⟨vA, vn, vc⟩, ⟨io, im, iA, il, ic⟩, ⟨jo, jm, jA, jl, jc⟩, ⟨eA, en, ec⟩, ⟨sA, sn, sc⟩, ⟨aA, an, ac⟩, ⟨nA, nn, nc⟩, ⟨pA, pn, pc⟩⟩ _ m x3 (by omega) (HmoreM.out.below HX3.out) (HallM.out.below HX3.out)).mono ?_
                rintro e y1 ⟨rfl, hby⟩
                have hzy1 := hby.size
                rw [Hlaw4.out]
                have HY1 := hide (HX3.out.trans (hby.mono (by omega)))
                clear hby
                go_wp2_with fail
                refine (awake_any _).mono ?_
                rintro e y2 ⟨rfl, hby2⟩
                have HY2 := hide (HY1.out.trans (hby2.mono (by omega)))
                clear hby2
                go_wp2_with fail
                go_ret
                exact ⟨rfl, by rw [hN]; exact HbX.out.trans (HY2.out.mono (by have := HbX.out.size; omega))⟩
              · have hevb : (ev != 0) = true := by simp [hev]
                clear hev
                obtain ⟨r0, r1, r2, r3, r4, r5, r6, r7, r8, r9, r10, r11⟩ := (HmoreRow.out.below HX2.out (by omega)).all
                simp only at r0 r1 r2 r3 r4 r5 r6 r7 r8 r9 r10 r11
                have k0 := blk ((HX2.out.block N (by omega)).trans HmX.out) (i := 0) rfl
                have HboxN : Hid (BoxM x2 N ⟨⟨vA, vn, vc⟩, ⟨io, im, iA, il, ic⟩, ⟨jo, jm, jA, jl, jc⟩, ⟨eA, en, ec⟩, ⟨sA, sn, sc⟩, ⟨aA, an, ac⟩, ⟨nA, nn, nc⟩, ⟨pA, pn, pc⟩⟩) := hide (fun i v hv => blk ((HX2.out.block N (by omega)).trans HmX.out) hv)
                clear k0
                obtain ⟨q0, q1, q2, q3, q4, q5, q6, q7, q8, q9, q10, q11⟩ := HboxN.out.all
                simp only at q0 q1 q2 q3 q4 q5 q6 q7 q8 q9 q10 q11
                go_wp2_with fail
                clear r0 r1 r2 r3 r4 r5 r6 r7 r8 r9 r10 r11 q0 q1 q2 q3 q4 q5 q6 q7 q8 q9 q10 q11
                refine (dsame_any X.heap.size ⟨⟨vA, vn, vc⟩, ⟨io, im, iA, il, ic⟩, ⟨jo, jm, jA, jl, jc⟩, ⟨some ⟨gl, 0, none⟩, en + 1, capl⟩, ⟨sA, sn, sc⟩, ⟨aA, an, ac⟩, ⟨nA, nn, nc⟩, ⟨pA, pn, pc⟩⟩ ⟨⟨vA, vn, vc⟩, ⟨io, im, iA, il, ic⟩, ⟨jo, jm, jA, jl, jc⟩, ⟨eA, en, ec⟩, ⟨sA, sn, sc⟩, ⟨aA, an, ac⟩, ⟨nA, nn, nc⟩, ⟨pA, pn, pc⟩⟩ _ m x2 (by omega) (HmoreM.out.below HX2.out) (HallM.out.below HX2.out)).mono ?_
                rintro e y1 ⟨rfl, hby⟩
                have hzy1 := hby.size
                rw [Hlaw4.out]
                have HY1 := hide (HX2.out.trans (hby.mono (by omega)))
                clear hby
                go_wp2_with fail
                refine (awake_any _).mono ?_
                rintro e y2 ⟨rfl, hby2⟩
                have HY2 := hide (HY1.out.trans (hby2.mono (by omega)))
                clear hby2
                go_wp2_with fail
                go_ret
                exact ⟨rfl, by rw [hN]; exact HbX.out.trans (HY2.out.mono (by have := HbX.out.size; omega))⟩
            · have h12a : decide ((12 : Int) ≤ (en : Int)) = false := by simp; omega
              have h12b : decide (12 ≤ en) = false := by simp; omega
              rw [if_neg h12] at Hlaw1
              go_wp2_with fail
              clear a1 z1 a2 z2 q0 q1 q2 q3 q4 q5 q6 q7 q8 q9 q10 q11 Hp1X Hp1U
              generalize (U.setCell ⟨g0, 7, none⟩ (.slice (some ⟨gl, 0, none⟩) (en + 1) capl)).setCell ⟨g1, 7, none⟩ (.slice (some ⟨gs, 0, none⟩) l2.length cs) = X at *
              obtain ⟨_, _, hsv, hrowsX⟩ := short_rows HsrX.out (by omega) HBX.out (by omega)
              injection hsv with hs1 hs2 hs3
              injection hs1 with hs1
              injection hs1 with hs1
              subst hs1; subst hs3
              have HlessM := hide (rm_env (HrmX.out.more (B' := X.heap.size) (by omega)) hrowsX)
              have HmoreM := hide (rm_env (HrmX.out.more (B' := X.heap.size) (by omega)) (own_rows (by omega) HownX.out Hch8.out (fun b o ch a _ hc hcc => ((cmd_back (hc.up HBX.out (Nat.le_refl _)) hcc).more (by omega)))))
              have HallM := hide (HrmX.out.more (B' := X.heap.size) (by omega))
              clear hrowsX HsrX HownX HrmX
              simp only at HlessM HmoreM
              refine (dmod_any X.heap.size ⟨⟨vA, vn, vc⟩, ⟨io, im, iA, il, ic⟩, ⟨jo, jm, jA, jl, jc⟩, ⟨some ⟨gl, 0, none⟩, en + 1, capl⟩, ⟨sA, sn, sc⟩, ⟨aA, an, ac⟩, ⟨nA, nn, nc⟩, ⟨pA, pn, pc⟩⟩ _ X (Nat.le_refl _) HmoreM.out).mono ?_
              rintro e x1 ⟨rfl, hb1⟩
              have hzx1 := hb1.size
              rw [Hlaw1.out]
              have HX1 := hide hb1
              obtain ⟨r0, r1, r2, r3, r4, r5, r6, r7, r8, r9, r10, r11⟩ := (HlessRow.out.below hb1 (by omega)).all
              simp only at r0 r1 r2 r3 r4 r5 r6 r7 r8 r9 r10 r11
              have hee : (ev == ev) = true := by simp
              clear hb1
              go_wp2_with fail
              clear r0 r1 r2 r3 r4 r5 r6 r7 r8 r9 r10 r11
              refine (dmod_any X.heap.size ⟨⟨vA, vn, vc⟩, ⟨io, im, iA, il, ic⟩, ⟨jo, jm, jA, jl, jc⟩, ⟨some ⟨gs, 0, none⟩, l2.length, cs⟩, ⟨sA, sn, sc⟩, ⟨aA, an, ac⟩, ⟨nA, nn, nc⟩, ⟨pA, pn, pc⟩⟩ _ x1 (by omega) (HlessM.out.below HX1.out)).mono ?_
              rintro e x2 ⟨rfl, hb2⟩
              have hzx2 := hb2.size
              rw [Hlaw2.out]
              have HX2 := hide (HX1.out.trans (hb2.mono (by omega)))
              clear hb2
              by_cases hev : ev = 0
              · have hevb : (ev != 0) = false := by simp [hev]
                have Hsm := hide (Hlaw3.out hev)
                clear hev
                obtain ⟨r0, r1, r2, r3, r4, r5, r6, r7, r8, r9, r10, r11⟩ := (HmoreRow.out.below HX2.out (by omega)).all
                simp only at r0 r1 r2 r3 r4 r5 r6 r7 r8 r9 r10 r11
                go_wp2_with fail
                clear r0 r1 r2 r3 r4 r5 r6 r7 r8 r9 r10 r11
                refine (dsame_any X.heap.size ⟨⟨vA, vn, vc⟩, ⟨io, im, iA, il, ic⟩, ⟨jo, jm, jA, jl, jc⟩, ⟨some ⟨gl, 0, none⟩, en + 1, capl⟩, ⟨sA, sn, sc⟩, ⟨aA, an, ac⟩, ⟨nA, nn, nc⟩, ⟨pA, pn, pc⟩⟩ ⟨⟨vA, vn, vc⟩, ⟨io, im, iA, il, ic⟩, ⟨jo, jm, jA, jl, jc⟩, ⟨some ⟨gl, 0, none⟩, en + 1, capl⟩, ⟨sA, sn, sc⟩, ⟨aA, an, ac⟩, ⟨nA, nn, nc⟩, ⟨pA, pn, pc⟩⟩ _ _ x2 (by omega) (HmoreM.out.below HX2.out) (HmoreM.out.below HX2.out)).mono ?_
                rintro e x3 ⟨rfl, hb3⟩
                have hzx3 := hb3.size
                rw [Hsm.out]
                have HX3 := hide (HX2.out.trans (hb3.mono (by omega)))
                clear hb3
                obtain ⟨r0, r1, r2, r3, r4, r5, r6, r7, r8, r9, r10, r11⟩ := (HmoreRow.out.below HX3.out (by omega)).all
                simp only at r0 r1 r2 r3 r4 r5 r6 r7 r8 r9 r10 r11
                have k0 := blk ((HX3.out.block N (by omega)).trans HmX.out) (i := 0) rfl
                have HboxN : Hid (BoxM x3 N ⟨⟨vA, vn, vc⟩, ⟨io, im, iA, il, ic⟩, ⟨jo, jm, jA, jl, jc⟩, ⟨eA, en, ec⟩, ⟨sA, sn, sc⟩, ⟨aA, an, ac⟩, ⟨nA, nn, nc⟩, ⟨pA, pn, pc⟩⟩) := hide (fun i v hv => blk ((HX3.out.block N (by omega)).trans HmX.out) hv)
                clear k0
                obtain ⟨q0, q1, q2, q3, q4, q5, q6, q7, q8, q9, q10, q11⟩ := HboxN.out.all
                simp only at q0 q1 q2 q3 q4 q5 q6 q7 q8 q9 q10 q11
                go_wp2_with fail
                clear r0 r1 r2 r3 r4 r5 r6 r7 r8 r9 r10 r11 q0 q1 q2 q3 q4 q5 q6 q7 q8 q9 q10 q11
                refine (dsame_any X.heap.size ⟨⟨vA, vn, vc⟩, ⟨io, im, iA, il, ic⟩, ⟨jo, jm, jA, jl, jc⟩, ⟨some ⟨gl, 0, none⟩, en + 1, capl⟩, ⟨sA, sn, sc⟩, ⟨aA, an, ac⟩, ⟨nA, nn, nc⟩, ⟨pA, pn, pc⟩⟩ ⟨⟨vA, vn, vc⟩, ⟨io, im, iA, il, ic⟩, ⟨jo, jm, jA, jl, jc⟩, ⟨eA, en, ec⟩, ⟨sA, sn, sc⟩, ⟨aA, an, ac⟩, ⟨nA, nn, nc⟩, ⟨pA, pn, pc⟩⟩ _ m x3 (by omega) (HmoreM.out.below HX3.out) (HallM.out.below HX3.out)).mono ?_
                rintro e y1 ⟨rfl, hby⟩
                have hzy1 := hby.size
                rw [Hlaw4.out]
                have HY1 := hide (HX3.out.trans (hby.mono (by omega)))
                clear hby
                go_wp2_with fail
                refine (awake_any _).mono ?_
                rintro e y2 ⟨rfl, hby2⟩
                have HY2 := hide (HY1.out.trans (hby2.mono (by omega)))
                clear hby2
                go_wp2_with fail
                go_ret
                exact ⟨rfl, by rw [hN]; exact HbX.out.trans (HY2.out.mono (by have := HbX.out.size; omega))⟩
              · have hevb : (ev != 0) = true := by simp [hev]
                clear hev
                obtain ⟨r0, r1, r2, r3, r4, r5, r6, r7, r8, r9, r10, r11⟩ := (HmoreRow.out.below HX2.out (by omega)).all
                simp only at r0 r1 r2 r3 r4 r5 r6 r7 r8 r9 r10 r11
                have k0 := blk ((HX2.out.block N (by omega)).trans HmX.out) (i := 0) rfl
                have HboxN : Hid (BoxM x2 N ⟨⟨vA, vn, vc⟩, ⟨io, im, iA, il, ic⟩, ⟨jo, jm, jA, jl, jc⟩, ⟨eA, en, ec⟩, ⟨sA, sn, sc⟩, ⟨aA, an, ac⟩, ⟨nA, nn, nc⟩, ⟨pA, pn, pc⟩⟩) := hide (fun i v hv => blk ((HX2.out.block N (by omega)).trans HmX.out) hv)
                clear k0
                obtain ⟨q0, q1, q2, q3, q4, q5, q6, q7, q8, q9, q10, q11⟩ := HboxN.out.all
                simp only at q0 q1 q2 q3 q4 q5 q6 q7 q8 q9 q10 q11
                go_wp2_with fail
                clear r0 r1 r2 r3 r4 r5 r6 r7 r8 r9 r10 r11 q0 q1 q2 q3 q4 q5 q6 q7 q8 q9 q10 q11
                refine (dsame_any X.heap.size ⟨⟨vA, vn, vc⟩, ⟨io, im, iA, il, ic⟩, ⟨jo, jm, jA, jl, jc⟩, ⟨some ⟨gl, 0, none⟩, en + 1, capl⟩, ⟨sA, sn, sc⟩, ⟨aA, an, ac⟩, ⟨nA, nn, nc⟩, ⟨pA, pn, pc⟩⟩ ⟨⟨vA, vn, vc⟩, ⟨io, im, iA, il, ic⟩, ⟨jo, jm, jA, jl, jc⟩, ⟨eA, en, ec⟩, ⟨sA, sn, sc⟩, ⟨aA, an, ac⟩, ⟨nA, nn, nc⟩, ⟨pA, pn, pc⟩⟩ _ m x2 (by omega) (HmoreM.out.below HX2.out) (HallM.out.below HX2.out)).mono ?_
                rintro e y1 ⟨rfl, hby⟩
                have hzy1 := hby.size
                rw [Hlaw4.out]
                have HY1 := hide (HX2.out.trans (hby.mono (by omega)))
                clear hby
                go_wp2_with fail
                refine (awake_any _).mono ?_
                rintro e y2 ⟨rfl, hby2⟩
                have HY2 := hide (HY1.out.trans (hby2.mono (by omega)))
                clear hby2
                go_wp2_with fail
                go_ret
                exact ⟨rfl, by rw [hN]; exact HbX.out.trans (HY2.out.mono (by have := HbX.out.size; omega))⟩
    · have hcb : (modE m != 0) = true := by simp [hc]
      clear hc
      go_wp2_with fail
      refine (awake_any _).mono ?_
      rintro e w4 ⟨rfl, hb4⟩
      go_wp2_with fail
      go_ret
      exact ⟨rfl, by rw [hN]; exact Hbw.out.trans (hb4.mono (by omega))⟩
end Go.Proofs.Ytddbplgcglgloaa
