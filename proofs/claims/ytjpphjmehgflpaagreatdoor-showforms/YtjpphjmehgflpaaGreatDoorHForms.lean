/- ShowForms: the program's texts are the reference's. -/
import Derived.Test.YtjpphjmehgflpaaGreatDoorHFormsB
import Derived.Lib.QuietBelow
import Derived.BigQuiet
namespace Go.Proofs.YtjpphjmehgflpaaGreatDoor
open Go.RowKit Ex
open Go.Sort (grow)
set_option linter.unusedSimpArgs false
set_option linter.unusedVariables false

set_option maxRecDepth 100000 in
set_option maxHeartbeats 16000000 in
theorem forms_any (B : Nat) (x : M8) (m : MT) (fd : Nat) (fo fn : Int) (fA : Option Addr) (fl fc : Nat) (te : T) (y : C2) (c : CT) (env : Bool) (w : World) (hB : B ≤ w.heap.size) (hrm : RM w B x m) (hre : RE w B fd fo fn fA fl fc te) (hrc : RC w B y c) (hT : TB w.heap.size w) :
    Calls Tryz.prog 3 #[.agg x.cells, .agg #[.int .i64 fo, .int .i64 fn, .slice fA fl fc], .agg y.cells, .bool env] w fun e w' => e = .returned (.bool true) ∧ Below w.heap.size w w' := by
  obtain ⟨⟨vA, vn, vc⟩, ⟨io, im, iA, il, ic⟩, ⟨jo, jm, jA, jl, jc⟩, ⟨eA, en, ec⟩, ⟨sA, sn, sc⟩, ⟨aA, an, ac⟩, ⟨nA, nn, nc⟩, ⟨pA, pn, pc⟩⟩ := x
  obtain ⟨⟨go, gn, gA, gl, gc⟩, ⟨rA, rn, rc⟩⟩ := y
  obtain ⟨hx, he, hc, hbn, hzn⟩ := three_blk w (M8.cells ⟨⟨vA, vn, vc⟩, ⟨io, im, iA, il, ic⟩, ⟨jo, jm, jA, jl, jc⟩, ⟨eA, en, ec⟩, ⟨sA, sn, sc⟩, ⟨aA, an, ac⟩, ⟨nA, nn, nc⟩, ⟨pA, pn, pc⟩⟩) #[.int .i64 fo, .int .i64 fn, .slice fA fl fc] (C2.cells ⟨⟨go, gn, gA, gl, gc⟩, ⟨rA, rn, rc⟩⟩)
  have Hrm := hide (hrm.below (hbn.mono hB))
  have Hre := hide (hre.below (hbn.mono hB))
  have Hrc := hide (hrc.below (hbn.mono hB))
  have HT := hide (hT.up hbn)
  have Hbn := hide hbn
  have Hx := hide hx; have He := hide he; have Hc := hide hc
  clear hrm hre hrc hT hbn hx he hc
  simp only [M8.cells, C2.cells, SL.v] at *
  go_enter Tryz.func3, Tryz.ntmps3
  go_wp2_with fail
  generalize ((w.alloc (.cells #[.slice vA vn vc, .int .i64 io, .int .i64 im, .slice iA il ic, .int .i64 jo, .int .i64 jm, .slice jA jl jc, .slice eA en ec, .slice sA sn sc, .slice aA an ac, .slice nA nn nc, .slice pA pn pc] 28)).alloc (.cells #[.int .i64 fo, .int .i64 fn, .slice fA fl fc] 25)).alloc (.cells #[.int .i64 go, .int .i64 gn, .slice gA gl gc, .slice rA rn rc] 31) = W at *
  have hBW : B ≤ W.heap.size := by omega
  obtain ⟨h1a, h1b⟩ := hvM_bd m
  obtain ⟨h2a, h2b⟩ := hvM_bd (fM te c)
  refine abs_act ?_
  intro a0 ha0
  have e4 : a0.eval (.tmp 4) = .pointer (some ⟨w.heap.size, 0, none⟩) := by rw [ha0]; rfl
  have e5 : a0.eval (.tmp 5) = .pointer (some ⟨w.heap.size + 1, 0, none⟩) := by rw [ha0]; rfl
  have e6 : a0.eval (.tmp 6) = .pointer (some ⟨w.heap.size + 2, 0, none⟩) := by rw [ha0]; rfl
  have hsz : 9 + 9 ≤ a0.tmps.size := by rw [ha0]; simp
  have Ha0 := hide ha0
  clear ha0
  refine region_last (n := 8) 9 (FJ (.agg #[.slice vA vn vc, .int .i64 io, .int .i64 im, .slice iA il ic, .int .i64 jo, .int .i64 jm, .slice jA jl jc, .slice eA en ec, .slice sA sn sc, .slice aA an ac, .slice nA nn nc, .slice pA pn pc]) (hvM m) (hvM (fM te c)) (.agg #[.int .i64 fo, .int .i64 fn, .slice fA fl fc]) (.agg #[.int .i64 go, .int .i64 gn, .slice gA gl gc, .slice rA rn rc]) (fun g => .agg #[.slice none 0 0, .int .i64 fo, .int .i64 fn, .slice fA fl fc, .int .i64 0, .int .i64 0, .slice none 0 0, .slice (some ⟨g, 0, none⟩) 1 1, .slice none 0 0, .slice none 0 0, .slice none 0 0, .slice none 0 0]) #[.int .i64 go, .int .i64 gn, .slice gA gl gc, .slice rA rn rc]) (by kernel_rfl) hsz (by kernel_rfl) fj_mono ?_ ?_
  · clear Ha0
    intro j o v w8 hj ho hb hdep
    have hz8 := hb.out.size
    have x8 := (hb.out.block w.heap.size (by omega)).trans Hx.out
    have y8 := (hb.out.block (w.heap.size + 1) (by omega)).trans He.out
    have c8 := (hb.out.block (w.heap.size + 2) (by omega)).trans Hc.out
    have hj2 : j = 0 ∨ j = 1 ∨ j = 2 ∨ j = 3 ∨ j = 4 ∨ j = 5 ∨ j = 6 ∨ j = 7 := by omega
    clear hj
    rcases hj2 with rfl | rfl | rfl | rfl | rfl | rfl | rfl | rfl
    · simp at ho; subst ho
      exact st_l28 ((over_out (by omega)).trans e4) x8 ⟨_, rfl, rfl, Below.refl _ _⟩
    · simp at ho; subst ho
      have d0 : v 0 = .agg #[.slice vA vn vc, .int .i64 io, .int .i64 im, .slice iA il ic, .int .i64 jo, .int .i64 jm, .slice jA jl jc, .slice eA en ec, .slice sA sn sc, .slice aA an ac, .slice nA nn nc, .slice pA pn pc] := hdep ⟨0, .data⟩ (by simp) rfl
      exact st_hv (x := ⟨⟨vA, vn, vc⟩, ⟨io, im, iA, il, ic⟩, ⟨jo, jm, jA, jl, jc⟩, ⟨eA, en, ec⟩, ⟨sA, sn, sc⟩, ⟨aA, an, ac⟩, ⟨nA, nn, nc⟩, ⟨pA, pn, pc⟩⟩) rfl ((over_in (j := 0) (by omega) hsz).trans d0) (by omega) (Hrm.out.below (hb.out.mono hBW)) (fun w' hb' => ⟨_, rfl, rfl, hb'⟩)
    · simp at ho; subst ho
      exact st_l25 ((over_out (by omega)).trans e5) y8 ⟨_, rfl, rfl, Below.refl _ _⟩
    · simp at ho; subst ho
      exact st_l31 ((over_out (by omega)).trans e6) c8 ⟨_, rfl, rfl, Below.refl _ _⟩
    · simp at ho; subst ho
      have d3 : v 3 = .agg #[.int .i64 go, .int .i64 gn, .slice gA gl gc, .slice rA rn rc] := hdep ⟨3, .data⟩ (by simp) rfl
      exact st_b26 ((over_in (j := 3) (by omega) hsz).trans d3) ⟨_, rfl, ⟨w8.heap.size, rfl, heap_alloc_new _ _⟩, (Below.refl _ _).alloc (Nat.le_refl _) _⟩
    · simp at ho; subst ho
      have d2 : v 2 = .agg #[.int .i64 fo, .int .i64 fn, .slice fA fl fc] := hdep ⟨2, .data⟩ (by simp) rfl
      obtain ⟨g, d4, hg⟩ : ∃ g, v 4 = .slice (some ⟨g, 0, none⟩) 1 1 ∧ w8.heap[g]? = some (.cells #[.int .i64 go, .int .i64 gn, .slice gA gl gc, .slice rA rn rc] 31 (0, 0)) := hdep ⟨4, .data⟩ (by simp) rfl
      exact st_b28 ((over_in (j := 2) (by omega) hsz).trans d2) ((over_in (j := 4) (by omega) hsz).trans d4) ⟨_, rfl, ⟨g, rfl, hg⟩, Below.refl _ _⟩
    · simp at ho; subst ho
      obtain ⟨g, d5, hg⟩ : ∃ g, v 5 = .agg #[.slice none 0 0, .int .i64 fo, .int .i64 fn, .slice fA fl fc, .int .i64 0, .int .i64 0, .slice none 0 0, .slice (some ⟨g, 0, none⟩) 1 1, .slice none 0 0, .slice none 0 0, .slice none 0 0, .slice none 0 0] ∧ w8.heap[g]? = some (.cells #[.int .i64 go, .int .i64 gn, .slice gA gl gc, .slice rA rn rc] 31 (0, 0)) := hdep ⟨5, .data⟩ (by simp) rfl
      exact st_hv (x := fX fo fn fA fl fc g) (m := fM te c) rfl ((over_in (j := 5) (by omega) hsz).trans d5) (Nat.le_refl _) (f_rm (Array.getElem?_eq_some_iff.1 hg).1 hg ((EX.below ⟨fd, Hre.out⟩ (hb.out.mono hBW)).more (by omega)) ((Hrc.out.below (hb.out.mono hBW)).more (by omega))) (fun w' hb' => ⟨_, rfl, rfl, hb'⟩)
    · simp at ho; subst ho
      have d1 : v 1 = .int .i64 (hvM m) := hdep ⟨1, .data⟩ (by simp) rfl
      have d6 : v 6 = .int .i64 (hvM (fM te c)) := hdep ⟨6, .data⟩ (by simp) rfl
      exact st_add ((over_in (j := 1) (by omega) hsz).trans d1) ((over_in (j := 6) (by omega) hsz).trans d6) h1a h1b h2a h2b ⟨_, rfl, rfl, Below.refl _ _⟩
  · intro o v w1 ho hv hb
    simp at ho; subst ho
    have hz1 := hb.out.size
    have d7 : v 7 = .int .i64 (hvM m + hvM (fM te c)) := hv 7 (by omega)
    have Hb1 := hide (Hbn.out.trans (hb.out.mono (by omega)))
    have HT1 := hide (HT.out.up hb.out)
    have Hrm1 := hide (Hrm.out.below (hb.out.mono hBW))
    have Hre1 := hide (Hre.out.below (hb.out.mono hBW))
    have Hrc1 := hide (Hrc.out.below (hb.out.mono hBW))
    have Hx1 := hide ((hb.out.block w.heap.size (by omega)).trans Hx.out)
    have He1 := hide ((hb.out.block (w.heap.size + 1) (by omega)).trans He.out)
    have Hc1 := hide ((hb.out.block (w.heap.size + 2) (by omega)).trans Hc.out)
    refine st_gtr (q := decide (0 < hvM m + hvM (fM te c))) ((over_in (j := 7) (by omega) hsz).trans d7) rfl ?_
    clear hv hb Hbn HT Hrm Hre Hrc Hx He Hc d7 e4 e5 e6
    rw [over_puts, Ha0.out]
    simp only [putsV]
    by_cases hh : 0 < hvM m + hvM (fM te c)
    · have hhb : decide (0 < hvM m + hvM (fM te c)) = true := by simp [hh]
      rw [hhb]
      simp only [Act.put]
      go_simp
      clear Ha0 hsz hh
      go_wp2_with fail
      refine (awake_any _ HT1.out).mono ?_
      rintro e w9 ⟨rfl, hb9⟩
      have Hb9 := hide (Hb1.out.trans (hb9.mono (by omega)))
      clear hb9
      go_wp2_with fail
      go_ret
      exact ⟨rfl, Hb9.out⟩
    · have hhb : decide (0 < hvM m + hvM (fM te c)) = false := by simp; omega
      rw [hhb]
      simp only [Act.put]
      go_simp
      clear Ha0 hsz hh
      go_wp2_with fail
      have hBW1 : B ≤ w1.heap.size := by omega
      have Hov := hide Hrm1.out.1
      have Hrv1 := hide Hrm1.out.2.1
      simp only at Hov Hrv1
      have Hq6 : Hid (∀ dd os, Calls Tryz.prog 6 #[.slice vA vn vc, .agg #[.int .i64 fo, .int .i64 fn, .slice fA fl fc]] (grow (redrawn w1 dd) os) fun e w'' => e = .returned (.string (bytesOf (showE m.vars te))) ∧ ∃ p : Regrown, w'' = grow (redrawn w1 p.d) p.os) := hide (fun dd os => Calls.regrown_of (showE_any B ⟨vA, vn, vc⟩ m.vars fd fo fn fA fl fc te _ Hov.out (Nat.le_trans hBW1 (below_regrown w1 dd os).size) (Hre1.out.below ((below_regrown w1 dd os).mono hBW1)) (Hrv1.out.below ((below_regrown w1 dd os).mono hBW1)) (HT1.out.up (below_regrown w1 dd os))))
      have Hq7 : Hid (∀ dd os, Calls Tryz.prog 7 #[.slice vA vn vc, .agg #[.int .i64 fo, .int .i64 fn, .slice fA fl fc]] (grow (redrawn w1 dd) os) fun e w'' => e = .returned (.string (bytesOf (showE m.vars te))) ∧ ∃ p : Regrown, w'' = grow (redrawn w1 p.d) p.os) := hide (fun dd os => Calls.regrown_of (rtextE_any B ⟨vA, vn, vc⟩ m.vars fd fo fn fA fl fc te _ Hov.out (Nat.le_trans hBW1 (below_regrown w1 dd os).size) (Hre1.out.below ((below_regrown w1 dd os).mono hBW1)) (Hrv1.out.below ((below_regrown w1 dd os).mono hBW1)) (HT1.out.up (below_regrown w1 dd os))))
      have Hq8 : Hid (∀ dd os, Calls Tryz.prog 8 #[.slice vA vn vc, .agg #[.int .i64 go, .int .i64 gn, .slice gA gl gc, .slice rA rn rc], .bool env] (grow (redrawn w1 dd) os) fun e w'' => e = .returned (.string (bytesOf (showC m.vars c env))) ∧ ∃ p : Regrown, w'' = grow (redrawn w1 p.d) p.os) := hide (fun dd os => Calls.regrown_of (showC_any B ⟨vA, vn, vc⟩ m.vars ⟨⟨go, gn, gA, gl, gc⟩, ⟨rA, rn, rc⟩⟩ c env _ Hov.out (Nat.le_trans hBW1 (below_regrown w1 dd os).size) (Hrc1.out.below ((below_regrown w1 dd os).mono hBW1)) (Hrv1.out.below ((below_regrown w1 dd os).mono hBW1)) (HT1.out.up (below_regrown w1 dd os))))
      have Hq9 : Hid (∀ dd os, Calls Tryz.prog 9 #[.slice vA vn vc, .agg #[.int .i64 go, .int .i64 gn, .slice gA gl gc, .slice rA rn rc], .bool env] (grow (redrawn w1 dd) os) fun e w'' => e = .returned (.string (bytesOf (showC m.vars c env))) ∧ ∃ p : Regrown, w'' = grow (redrawn w1 p.d) p.os) := hide (fun dd os => Calls.regrown_of (rcmdT_any B ⟨vA, vn, vc⟩ m.vars ⟨⟨go, gn, gA, gl, gc⟩, ⟨rA, rn, rc⟩⟩ c env _ Hov.out (Nat.le_trans hBW1 (below_regrown w1 dd os).size) (Hrc1.out.below ((below_regrown w1 dd os).mono hBW1)) (Hrv1.out.below ((below_regrown w1 dd os).mono hBW1)) (HT1.out.up (below_regrown w1 dd os))))
      have Hq10 : Hid (∀ dd os, Calls Tryz.prog 10 #[.agg #[.slice vA vn vc, .int .i64 io, .int .i64 im, .slice iA il ic, .int .i64 jo, .int .i64 jm, .slice jA jl jc, .slice eA en ec, .slice sA sn sc, .slice aA an ac, .slice nA nn nc, .slice pA pn pc]] (grow (redrawn w1 dd) os) fun e w'' => e = .returned (.string (bytesOf (showM m))) ∧ ∃ p : Regrown, w'' = grow (redrawn w1 p.d) p.os) := hide (fun dd os => Calls.regrown_of (showM_any B ⟨⟨vA, vn, vc⟩, ⟨io, im, iA, il, ic⟩, ⟨jo, jm, jA, jl, jc⟩, ⟨eA, en, ec⟩, ⟨sA, sn, sc⟩, ⟨aA, an, ac⟩, ⟨nA, nn, nc⟩, ⟨pA, pn, pc⟩⟩ m _ (Nat.le_trans hBW1 (below_regrown w1 dd os).size) (Hrm1.out.below ((below_regrown w1 dd os).mono hBW1)) (HT1.out.up (below_regrown w1 dd os))))
      have Hq11 : Hid (∀ dd os, Calls Tryz.prog 11 #[.agg #[.slice vA vn vc, .int .i64 io, .int .i64 im, .slice iA il ic, .int .i64 jo, .int .i64 jm, .slice jA jl jc, .slice eA en ec, .slice sA sn sc, .slice aA an ac, .slice nA nn nc, .slice pA pn pc]] (grow (redrawn w1 dd) os) fun e w'' => e = .returned (.string (bytesOf (showM m))) ∧ ∃ p : Regrown, w'' = grow (redrawn w1 p.d) p.os) := hide (fun dd os => Calls.regrown_of (rmodT_any B ⟨⟨vA, vn, vc⟩, ⟨io, im, iA, il, ic⟩, ⟨jo, jm, jA, jl, jc⟩, ⟨eA, en, ec⟩, ⟨sA, sn, sc⟩, ⟨aA, an, ac⟩, ⟨nA, nn, nc⟩, ⟨pA, pn, pc⟩⟩ m _ (Nat.le_trans hBW1 (below_regrown w1 dd os).size) (Hrm1.out.below ((below_regrown w1 dd os).mono hBW1)) (HT1.out.up (below_regrown w1 dd os))))
      have Hq5 : Hid (∀ dd os, Calls Tryz.prog 5 #[] (grow (redrawn w1 dd) os) fun e w'' => e = .returned (.bool true) ∧ ∃ p : Regrown, w'' = grow (redrawn w1 p.d) p.os) := hide (fun dd os => Calls.regrown_of (awake_any _ (HT1.out.up (below_regrown w1 dd os))))
      generalize bytesOf (showE m.vars te) = S1 at *
      generalize bytesOf (showC m.vars c env) = S2 at *
      generalize bytesOf (showM m) = S3 at *
      have C0 := cell_regrown (show w1.cell? ⟨w.heap.size, 0, none⟩ = _ from (Lib.cell_of_heap Hx1.out 0).trans rfl)
      have C1 := cell_regrown (show w1.cell? ⟨w.heap.size, 1, none⟩ = _ from (Lib.cell_of_heap Hx1.out 1).trans rfl)
      have C2 := cell_regrown (show w1.cell? ⟨w.heap.size, 2, none⟩ = _ from (Lib.cell_of_heap Hx1.out 2).trans rfl)
      have C3 := cell_regrown (show w1.cell? ⟨w.heap.size, 3, none⟩ = _ from (Lib.cell_of_heap Hx1.out 3).trans rfl)
      have C4 := cell_regrown (show w1.cell? ⟨w.heap.size, 4, none⟩ = _ from (Lib.cell_of_heap Hx1.out 4).trans rfl)
      have C5 := cell_regrown (show w1.cell? ⟨w.heap.size, 5, none⟩ = _ from (Lib.cell_of_heap Hx1.out 5).trans rfl)
      have C6 := cell_regrown (show w1.cell? ⟨w.heap.size, 6, none⟩ = _ from (Lib.cell_of_heap Hx1.out 6).trans rfl)
      have C7 := cell_regrown (show w1.cell? ⟨w.heap.size, 7, none⟩ = _ from (Lib.cell_of_heap Hx1.out 7).trans rfl)
      have C8 := cell_regrown (show w1.cell? ⟨w.heap.size, 8, none⟩ = _ from (Lib.cell_of_heap Hx1.out 8).trans rfl)
      have C9 := cell_regrown (show w1.cell? ⟨w.heap.size, 9, none⟩ = _ from (Lib.cell_of_heap Hx1.out 9).trans rfl)
      have C10 := cell_regrown (show w1.cell? ⟨w.heap.size, 10, none⟩ = _ from (Lib.cell_of_heap Hx1.out 10).trans rfl)
      have C11 := cell_regrown (show w1.cell? ⟨w.heap.size, 11, none⟩ = _ from (Lib.cell_of_heap Hx1.out 11).trans rfl)
      have E0 := cell_regrown (show w1.cell? ⟨w.heap.size + 1, 0, none⟩ = _ from (Lib.cell_of_heap He1.out 0).trans rfl)
      have E1 := cell_regrown (show w1.cell? ⟨w.heap.size + 1, 1, none⟩ = _ from (Lib.cell_of_heap He1.out 1).trans rfl)
      have E2 := cell_regrown (show w1.cell? ⟨w.heap.size + 1, 2, none⟩ = _ from (Lib.cell_of_heap He1.out 2).trans rfl)
      have D0 := cell_regrown (show w1.cell? ⟨w.heap.size + 2, 0, none⟩ = _ from (Lib.cell_of_heap Hc1.out 0).trans rfl)
      have D1 := cell_regrown (show w1.cell? ⟨w.heap.size + 2, 1, none⟩ = _ from (Lib.cell_of_heap Hc1.out 1).trans rfl)
      have D2 := cell_regrown (show w1.cell? ⟨w.heap.size + 2, 2, none⟩ = _ from (Lib.cell_of_heap Hc1.out 2).trans rfl)
      have D3 := cell_regrown (show w1.cell? ⟨w.heap.size + 2, 3, none⟩ = _ from (Lib.cell_of_heap Hc1.out 3).trans rfl)
      refine wp_region_quiet_below (by kernel_rfl) (by kernel_rfl) ?_
      repeat (go_big_quiet_step (first | (go_at_call 6; exact Hq6.out _ _) | (go_at_call 7; exact Hq7.out _ _) | (go_at_call 8; exact Hq8.out _ _) | (go_at_call 9; exact Hq9.out _ _) | (go_at_call 10; exact Hq10.out _ _) | (go_at_call 11; exact Hq11.out _ _) | (go_at_call 5; exact Hq5.out _ _)))
      refine wpQuiet_nil ?_
      intro w2 hw
      obtain ⟨p, hp⟩ := hw
      have hb : Below w1.heap.size w1 w2 := by rw [hp]; exact below_regrown w1 p.d p.os
      have Hb2 := hide (Hb1.out.trans (hb.mono (by omega)))
      clear hp hb
      go_wp2_with fail
      go_ret
      exact ⟨rfl, Hb2.out⟩
end Go.Proofs.YtjpphjmehgflpaaGreatDoor
