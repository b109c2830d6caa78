/- The walk of ArenaWhere. -/
import Derived.Test.YtbppdalfcldodaaGreatABld
import Derived.Test.YtbppdalfcldodaaGreatAWhM
import Derived.Test.YtbppdalfcldodaaGreatAAwake
import Derived.Test.YtbppdalfcldodaaGreatGFold
import Derived.Test.YtbppdalfcldodaaGreatGReads
import Derived.Test.YtbppdalfcldodaaGreatCAwake
import Derived.Test.YtbppdalfcldodaaGreatGMd
import Derived.BigQuiet
import Derived.Lib.QuietBelow
import Derived.Deep.RegionHeld3
import Derived.Deep.CutRange
import Derived.Deep.Cut
set_option maxRecDepth 100000
namespace Go.Proofs.YtbppdalfcldodaaGreat
open Go.RowKit Ex
open Go.Sort (grow)
set_option linter.unusedSimpArgs false
set_option linter.unusedVariables false
theorem q_hv6 {W : World} {B : Nat} {x : M8} {m : MT} {dd : Nat} {os : Array Obj} (hB : B ≤ W.heap.size) (Hrm : Hid (RM W B x m)) : Calls Tryz.prog 8 #[.agg x.cells] (grow (redrawn W dd) os) fun e w'' => e = .returned (.int .i64 (hv6 m)) ∧ ∃ p : Regrown, w'' = grow (redrawn W p.d) p.os :=
  Calls.regrown_of (hv6_any B x m _ (Nat.le_trans hB (below_regrown W dd os).size) (Hrm.out.below ((below_regrown W dd os).mono hB)))
theorem q_mod6 {W : World} {B : Nat} {x : M8} {m : MT} {dd : Nat} {os : Array Obj} (hB : B ≤ W.heap.size) (Hrm : Hid (RM W B x m)) : Calls Tryz.prog 23 #[.agg x.cells] (grow (redrawn W dd) os) fun e w'' => e = .returned (.int .i64 (modE m)) ∧ ∃ p : Regrown, w'' = grow (redrawn W p.d) p.os :=
  Calls.regrown_of (rmod_any B x m _ (Nat.le_trans hB (below_regrown W dd os).size) (Hrm.out.below ((below_regrown W dd os).mono hB)))
theorem hv6_bd2 (m : MT) : 0 ≤ hv6 m ∧ hv6 m ≤ 1000000 := by
  have := hvM_bd m
  unfold hv6
  split
  · omega
  · split <;> omega
theorem gr_map {X : World} {B m k n c : Nat} {A : Option Addr} {f : Nat → Bool} (h : Gr.RB X B ⟨A, n, c⟩ ((List.range m).map f)) (hk : k < m) : ∃ b off, A = some ⟨b, off, none⟩ ∧ b < B ∧ X.cell? ⟨b, off + k, none⟩ = some (.bool (f k)) := by
  have hn := h.len
  simp at hn
  obtain ⟨b, off, e, hb, hc⟩ := h.2.2.2.1 (by show 0 < n; omega)
  exact ⟨b, off, e, hb, hc k _ (by rw [List.getElem?_map, List.getElem?_range hk]; rfl)⟩
theorem c_wh {W X : World} {x : M8} {m : MT} {O N : Gr.SL} {AA : Option Addr} {L ac : Nat} {l : List Vx} {d : Nat} {op n : Int} {A : Option Addr} {len cap : Nat} {t : T} (hs : Hid (Below W.heap.size W X)) (Hrm : Hid (RM W W.heap.size x m)) (Hrv : Hid (RVx W W.heap.size ⟨AA, L, ac⟩ l)) (hL : L ≤ 3000) (Hre : Hid (RE W W.heap.size d op n A len cap t)) :
    Calls Tryz.prog 17 #[.agg x.cells, .agg #[O.v, N.v, .slice AA L ac], .agg #[.int .i64 op, .int .i64 n, .slice A len cap]] X fun e w' => ∃ A n c, e = .returned (.slice A n c) ∧ Hid (Gr.RB w' w'.heap.size ⟨A, n, c⟩ (whL m t l)) ∧ Hid (Below X.heap.size X w') ∧ Hid (Below W.heap.size W w') :=
  (dwhere_any W.heap.size x m O N AA L ac l d op n A len cap t X hs.out.size (Hrm.out.below hs.out) (Hrv.out.below hs.out) hL (Hre.out.below hs.out)).mono fun e w' ⟨⟨A, n, c⟩, he, h1, _, h2⟩ => ⟨A, n, c, he, hide h1, hide h2, hide (hs.out.trans (h2.mono hs.out.size))⟩
set_option maxHeartbeats 8000000 in
theorem awhere_any (B : Nat) (x : M8) (m : MT) (d : Nat) (op n : Int) (A : Option Addr) (len cap : Nat) (t : T) (w : World) (hB : B ≤ w.heap.size) (hrm : RM w B x m) (hre : RE w B d op n A len cap t) :
    Calls Tryz.prog 6 #[.agg x.cells, .agg #[.int .i64 op, .int .i64 n, .slice A len cap]] w fun e w' => e = .returned (.bool true) ∧ Below w.heap.size w w' := by
  have hb1 : Below w.heap.size w (w.alloc (.cells x.cells 28)) := (Below.refl _ _).alloc (Nat.le_refl _) _
  have hb2 : Below w.heap.size w ((w.alloc (.cells x.cells 28)).alloc (.cells #[.int .i64 op, .int .i64 n, .slice A len cap] 25)) := hb1.alloc (by simp) _
  have hz : (w.alloc (.cells x.cells 28)).heap.size = w.heap.size + 1 := by simp
  have Hrm := hide (hrm.below (hb2.mono hB))
  have Hre := hide (hre.below (hb2.mono hB))
  have Ho := hide hrm.1
  have Hbm := hide ((boxM_new w x).below ((Below.refl _ _).alloc (Nat.le_refl _) (.cells #[.int .i64 op, .int .i64 n, .slice A len cap] 25)) (by simp))
  have hbe := Ex.box_new (w.alloc (.cells x.cells 28)) op n A len cap 25
  rw [hz] at hbe
  have Hbe := hide hbe
  have Hb := hide hb2
  have hz2 : ((w.alloc (.cells x.cells 28)).alloc (.cells #[.int .i64 op, .int .i64 n, .slice A len cap] 25)).heap.size = w.heap.size + 2 := by simp
  obtain ⟨h1a, h1b⟩ := hv6_bd2 m
  obtain ⟨h2a, h2b⟩ := heavy_bd t
  have Htot : Hid (hv6 m = 0 → modE m = 0 → totN m ≤ 24) := hide (fun h _ => hv6_tot h)
  clear hb1 hb2 hz hrm hre hbe
  obtain ⟨⟨vA, vn, vc⟩, ⟨io, im, iA, il, ic⟩, ⟨jo, jm, jA, jl, jc⟩, ⟨eA, en, ec⟩, ⟨sA, sn, sc⟩, ⟨aA, an, ac⟩, ⟨nA, nn, nc⟩, ⟨pA, pn, pc⟩⟩ := x
  simp only [M8.cells, SL.v] at *
  go_enter Tryz.func6, Tryz.ntmps6
  go_wp2_with fail
  generalize (w.alloc (.cells #[.slice vA vn vc, .int .i64 io, .int .i64 im, .slice iA il ic, .int .i64 jo, .int .i64 jm, .slice jA jl jc, .slice eA en ec, .slice sA sn sc, .slice aA an ac, .slice nA nn nc, .slice pA pn pc] 28)).alloc (.cells #[.int .i64 op, .int .i64 n, .slice A len cap] 25) = W at *
  have hBW : B ≤ W.heap.size := by omega
  obtain ⟨q0, q1, q2, q3, q4, q5, q6, q7, q8, q9, q10, q11⟩ := row12 Hbm.out
  simp only at q0 q1 q2 q3 q4 q5 q6 q7 q8 q9 q10 q11
  have r0 := cell_regrown q0; have r1 := cell_regrown q1; have r2 := cell_regrown q2; have r3 := cell_regrown q3; have r4 := cell_regrown q4; have r5 := cell_regrown q5; have r6 := cell_regrown q6; have r7 := cell_regrown q7; have r8 := cell_regrown q8; have r9 := cell_regrown q9; have r10 := cell_regrown q10; have r11 := cell_regrown q11
  have C0 := cell_regrown Hbe.out.1
  have C1 := cell_regrown Hbe.out.2.1
  have C2 := cell_regrown Hbe.out.2.2
  clear q0 q1 q2 q3 q4 q5 q6 q7 q8 q9 q10 q11
  by_cases hh : 0 < hv6 m + heavyE t
  · have hhb : decide (0 < hv6 m + heavyE t) = true := by simp [hh]
    refine wp_region_quiet_below (by kernel_rfl) (by kernel_rfl) ?_
    repeat (go_big_quiet_step (first | (go_at_call 8; exact q_hv6 (x := ⟨⟨vA, vn, vc⟩, ⟨io, im, iA, il, ic⟩, ⟨jo, jm, jA, jl, jc⟩, ⟨eA, en, ec⟩, ⟨sA, sn, sc⟩, ⟨aA, an, ac⟩, ⟨nA, nn, nc⟩, ⟨pA, pn, pc⟩⟩) hBW Hrm) | (go_at_call 9; exact q_heavy hBW Hre)))
    refine wpQuiet_nil ?_
    intro w3 hw3
    obtain ⟨p, hp3⟩ := hw3
    have hb3 : Below W.heap.size W w3 := by rw [hp3]; exact below_regrown W p.d p.os
    have Hb3 := hide (Hb.out.trans (hb3.mono (by omega)))
    clear hp3 hb3 r0 r1 r2 r3 r4 r5 r6 r7 r8 r9 r10 r11 C0 C1 C2
    go_wp2_with fail
    refine (awake_any w3).mono ?_
    rintro e w4 ⟨rfl, hb4⟩
    have Hf := hide (Hb3.out.trans (hb4.mono Hb3.out.size))
    clear hb4
    go_wp2_with fail
    go_ret
    exact ⟨rfl, Hf.out⟩
  · have hhb : decide (0 < hv6 m + heavyE t) = false := by simp; omega
    have hhv : hv6 m = 0 := by omega
    have HT := hide (Htot.out hhv)
    clear hhv hh
    by_cases hc : modE m = 0
    · have hcb : (modE m != 0) = false := by simp [hc]
      have Hc := hide hc
      have hT := HT.out hc
      refine wp_region_quiet_below (by kernel_rfl) (by kernel_rfl) ?_
      repeat (go_big_quiet_step (first | (go_at_call 8; exact q_hv6 (x := ⟨⟨vA, vn, vc⟩, ⟨io, im, iA, il, ic⟩, ⟨jo, jm, jA, jl, jc⟩, ⟨eA, en, ec⟩, ⟨sA, sn, sc⟩, ⟨aA, an, ac⟩, ⟨nA, nn, nc⟩, ⟨pA, pn, pc⟩⟩) hBW Hrm) | (go_at_call 9; exact q_heavy hBW Hre) | (go_at_call 23; exact q_mod6 (x := ⟨⟨vA, vn, vc⟩, ⟨io, im, iA, il, ic⟩, ⟨jo, jm, jA, jl, jc⟩, ⟨eA, en, ec⟩, ⟨sA, sn, sc⟩, ⟨aA, an, ac⟩, ⟨nA, nn, nc⟩, ⟨pA, pn, pc⟩⟩) hBW Hrm)))
      refine wpQuiet_nil ?_
      intro w3 hw3
      obtain ⟨p, hp3⟩ := hw3
      have hb3 : Below W.heap.size W w3 := by rw [hp3]; exact below_regrown W p.d p.os
      have Hb3 := hide (Hb.out.trans (hb3.mono (by omega)))
      have Hrm3 := hide (Hrm.out.below (hb3.mono hBW))
      have Hre3 := hide (Hre.out.below (hb3.mono hBW))
      have Hbm3 := hide (Hbm.out.below hb3 (by omega))
      have Hbe3 := hide (Hbe.out.below hb3 (by omega))
      have hz3 := hb3.size
      have HbW3 := hide hb3
      clear hp3 hb3 r0 r1 r2 r3 r4 r5 r6 r7 r8 r9 r10 r11 C0 C1 C2 hhb h1a h1b h2a h2b hc hcb
      obtain ⟨q0, q1, q2, q3, q4, q5, q6, q7, q8, q9, q10, q11⟩ := row12 Hbm3.out
      simp only at q0 q1 q2 q3 q4 q5 q6 q7 q8 q9 q10 q11
      go_wp2_with fail
      clear q0 q1 q2 q3 q4 q5 q6 q7 q8 q9 q10 q11
      refine (rbuild_any B ⟨⟨vA, vn, vc⟩, ⟨io, im, iA, il, ic⟩, ⟨jo, jm, jA, jl, jc⟩, ⟨eA, en, ec⟩, ⟨sA, sn, sc⟩, ⟨aA, an, ac⟩, ⟨nA, nn, nc⟩, ⟨pA, pn, pc⟩⟩ m w3 (by omega) Hrm3.out HT.out).mono ?_
      rintro e w4 ⟨⟨gO, gon, goc⟩, ⟨gN, gnn, gnc⟩, ⟨zA, zn, zc⟩, rfl, _, hat, hb4⟩
      have hz4 := hb4.size
      have HbW4 := hide (HbW3.out.trans (hb4.mono (by omega)))
      have Hb4 := hide (Hb3.out.trans (hb4.mono Hb3.out.size))
      have hea : arAt m = atL m := by unfold arAt; rw [if_pos Hc.out]
      rw [hea] at hat
      have hzl : (atL m).length = zn := hat.1
      have hz625 : zn ≤ 625 := by rw [← hzl]; exact go_len hT 700
      have Hzl := hide hzl
      have Hat := hide hat
      have Hbe4 := hide (Hbe3.out.below hb4 (by omega))
      rw [Hc.out]
      clear hb4 hea hat hzl Hbe3 HbW3 Hb3
      -- the arena's box, the expression below its negation, the negation
      have hb6 : Below w4.heap.size w4 (((w4.alloc (.cells #[.slice gO gon goc, .slice gN gnn gnc, .slice zA zn zc] 38)).alloc (.cells #[.int .i64 op, .int .i64 n, .slice A len cap] 25)).alloc (.cells #[.int .i64 5, .int .i64 0, .slice (some ⟨w4.heap.size + 1, 0, none⟩) 1 1] 25)) := (((Below.refl _ _).alloc (Nat.le_refl _) _).alloc (by simp) _).alloc (by simp; omega) _
      have s1 := World.size_alloc w4 (.cells #[.slice gO gon goc, .slice gN gnn gnc, .slice zA zn zc] 38)
      have s2 := (World.size_alloc (w4.alloc (.cells #[.slice gO gon goc, .slice gN gnn gnc, .slice zA zn zc] 38)) (.cells #[.int .i64 op, .int .i64 n, .slice A len cap] 25)).trans (by rw [s1])
      have s3 := (World.size_alloc ((w4.alloc (.cells #[.slice gO gon goc, .slice gN gnn gnc, .slice zA zn zc] 38)).alloc (.cells #[.int .i64 op, .int .i64 n, .slice A len cap] 25)) (.cells #[.int .i64 5, .int .i64 0, .slice (some ⟨w4.heap.size + 1, 0, none⟩) 1 1] 25)).trans (by rw [s2])
      have b1 := (Below.heap_alloc _ (.cells #[.int .i64 5, .int .i64 0, .slice (some ⟨w4.heap.size + 1, 0, none⟩) 1 1] 25) w4.heap.size (by rw [s2]; omega)).trans ((Below.heap_alloc _ (.cells #[.int .i64 op, .int .i64 n, .slice A len cap] 25) w4.heap.size (by rw [s1]; omega)).trans (heap_alloc_new w4 (.cells #[.slice gO gon goc, .slice gN gnn gnc, .slice zA zn zc] 38)))
      have b2 := heap_alloc_new (w4.alloc (.cells #[.slice gO gon goc, .slice gN gnn gnc, .slice zA zn zc] 38)) (.cells #[.int .i64 op, .int .i64 n, .slice A len cap] 25)
      rw [s1] at b2
      have b2' := (Below.heap_alloc _ (.cells #[.int .i64 5, .int .i64 0, .slice (some ⟨w4.heap.size + 1, 0, none⟩) 1 1] 25) (w4.heap.size + 1) (by rw [s2]; omega)).trans b2
      have b3 := heap_alloc_new ((w4.alloc (.cells #[.slice gO gon goc, .slice gN gnn gnc, .slice zA zn zc] 38)).alloc (.cells #[.int .i64 op, .int .i64 n, .slice A len cap] 25)) (.cells #[.int .i64 5, .int .i64 0, .slice (some ⟨w4.heap.size + 1, 0, none⟩) 1 1] 25)
      rw [s2] at b3
      have B1 := hide b1; have B2 := hide b2'; have B3 := hide b3
      have Hb6 := hide hb6
      have Hz6 := hide s3
      obtain ⟨e0, e1, e2⟩ := Hbe4.out
      have hle : w.heap.size + 1 < w4.heap.size := by omega
      clear b1 b2 b2' b3 hb6 s1 s2 s3
      simp only [SL.v, Gr.SL.v]
      go_upto_region 5 with fail
      clear e0 e1 e2
      have HbW6 := hide (HbW4.out.trans (Hb6.out.mono (by omega)))
      have Hb6w := hide (Hb4.out.trans (Hb6.out.mono (by omega)))
      generalize (((w4.alloc (.cells #[.slice gO gon goc, .slice gN gnn gnc, .slice zA zn zc] 38)).alloc (.cells #[.int .i64 op, .int .i64 n, .slice A len cap] 25)).alloc (.cells #[.int .i64 5, .int .i64 0, .slice (some ⟨w4.heap.size + 1, 0, none⟩) 1 1] 25)) = w6 at *
      generalize hN4 : w4.heap.size = a4 at *
      have hz6 := Hz6.out
      have Hrm6 := hide ((Hrm.out.below (HbW6.out.mono hBW)).more (B' := w6.heap.size) (by omega))
      have Hre6 := hide (RE.more (B' := w6.heap.size) (by omega) _ _ _ _ _ _ _ (Hre.out.below (HbW6.out.mono hBW)))
      have Hat6 := hide ((Hat.out.below (Hb6.out.mono (by omega))).more (B' := w6.heap.size) (by omega))
      have Hrn6 : Hid (RE w6 w6.heap.size (d + 1) 5 0 (some ⟨a4 + 1, 0, none⟩) 1 1 (negT t)) := hide (RE.node rfl (Nat.le_refl _) (by unfold maxLen; omega) (by omega) (fun k u hu => by
        have hk : k = 0 := by have := (List.getElem?_eq_some_iff.1 hu).1; simp at this; omega
        subst hk
        simp at hu
        subst hu
        exact ⟨op, n, A, len, cap, ⟨by rw [Lib.cell_of_heap B2.out]; rfl, by rw [Lib.cell_of_heap B2.out]; rfl, by rw [Lib.cell_of_heap B2.out]; rfl⟩, Hre6.out⟩))
      have Hbm6 := hide (Hbm.out.below HbW6.out (by omega))
      have Hbe6 := hide (Hbe.out.below HbW6.out (by omega))
      have hNl : w.heap.size + 1 < w6.heap.size := by omega
      generalize hN : w.heap.size = N at *
      have all21 : ∀ w' : World, Hid (Below w6.heap.size w6 w') → (w'.cell? ⟨N, 0, none⟩ = some (.slice vA vn vc) ∧ w'.cell? ⟨N, 1, none⟩ = some (.int .i64 io) ∧ w'.cell? ⟨N, 2, none⟩ = some (.int .i64 im) ∧ w'.cell? ⟨N, 3, none⟩ = some (.slice iA il ic) ∧ w'.cell? ⟨N, 4, none⟩ = some (.int .i64 jo) ∧ w'.cell? ⟨N, 5, none⟩ = some (.int .i64 jm) ∧ w'.cell? ⟨N, 6, none⟩ = some (.slice jA jl jc) ∧ w'.cell? ⟨N, 7, none⟩ = some (.slice eA en ec) ∧ w'.cell? ⟨N, 8, none⟩ = some (.slice sA sn sc) ∧ w'.cell? ⟨N, 9, none⟩ = some (.slice aA an ac) ∧ w'.cell? ⟨N, 10, none⟩ = some (.slice nA nn nc) ∧ w'.cell? ⟨N, 11, none⟩ = some (.slice pA pn pc) ∧ w'.cell? ⟨(N + 1), 0, none⟩ = some (.int .i64 op) ∧ w'.cell? ⟨(N + 1), 1, none⟩ = some (.int .i64 n) ∧ w'.cell? ⟨(N + 1), 2, none⟩ = some (.slice A len cap) ∧ w'.cell? ⟨a4, 0, none⟩ = some (.slice gO gon goc) ∧ w'.cell? ⟨a4, 1, none⟩ = some (.slice gN gnn gnc) ∧ w'.cell? ⟨a4, 2, none⟩ = some (.slice zA zn zc) ∧ w'.cell? ⟨(a4 + 1 + 1), 0, none⟩ = some (.int .i64 5) ∧ w'.cell? ⟨(a4 + 1 + 1), 1, none⟩ = some (.int .i64 0) ∧ w'.cell? ⟨(a4 + 1 + 1), 2, none⟩ = some (.slice (some ⟨a4 + 1, 0, none⟩) 1 1)) := fun w' hs => by
        obtain ⟨q0, q1, q2, q3, q4, q5, q6, q7, q8, q9, q10, q11⟩ := row12 (Hbm6.out.below hs.out (by omega))
        simp only at q0 q1 q2 q3 q4 q5 q6 q7 q8 q9 q10 q11
        obtain ⟨e0, e1, e2⟩ := Hbe6.out.below hs.out (by omega)
        have k1 := (hs.out.block _ (by omega)).trans B1.out
        have k3 := (hs.out.block _ (by omega)).trans B3.out
        exact ⟨q0, q1, q2, q3, q4, q5, q6, q7, q8, q9, q10, q11, e0, e1, e2, by rw [Lib.cell_of_heap k1]; rfl, by rw [Lib.cell_of_heap k1]; rfl, by rw [Lib.cell_of_heap k1]; rfl, by rw [Lib.cell_of_heap k3]; rfl, by rw [Lib.cell_of_heap k3]; rfl, by rw [Lib.cell_of_heap k3]; rfl⟩
      have All := hide all21
      obtain ⟨q0, q1, q2, q3, q4, q5, q6, q7, q8, q9, q10, q11, e0, e1, e2, g0, g1, g2, n0, n1, n2⟩ := all21 w6 (hide (Below.refl _ _))
      clear all21 Hbm6 Hbe6
      go_wp2_with fail
      refine (rneeds_any w6.heap.size vA vn vc m.vars (d + 1) 5 0 (some ⟨a4 + 1, 0, none⟩) 1 1 (negT t) 1 true false false w6 Ho.out.1 Ho.out.2.1 Ho.out.2.2.1 (Nat.le_refl _) Hrn6.out Hrm6.out.2.1 Ho.out.2.2.2).mono ?_
      rintro e w7 ⟨rfl, hb7⟩
      have Hb7 := hide hb7
      clear hb7 q0 q1 q2 q3 q4 q5 q6 q7 q8 q9 q10 q11 e0 e1 e2 g0 g1 g2 n0 n1 n2
      by_cases hnd : needE m.vars (negT t) 1 true false false = 0
      · have hndb : (needE m.vars (negT t) 1 true false false != 0) = false := by simp [hnd]
        have Hnd := hide hnd
        clear hnd
        obtain ⟨q0, q1, q2, q3, q4, q5, q6, q7, q8, q9, q10, q11, e0, e1, e2, g0, g1, g2, n0, n1, n2⟩ := All.out w7 Hb7
        have Hs7 := hide (Hb7.out.drew)
        go_wp2_with fail
        clear hndb
        go_region_held3 (fun w' => w'.cell? ⟨N, 0, none⟩ = some (.slice vA vn vc) ∧ w'.cell? ⟨N, 1, none⟩ = some (.int .i64 io) ∧ w'.cell? ⟨N, 2, none⟩ = some (.int .i64 im) ∧ w'.cell? ⟨N, 3, none⟩ = some (.slice iA il ic) ∧ w'.cell? ⟨N, 4, none⟩ = some (.int .i64 jo) ∧ w'.cell? ⟨N, 5, none⟩ = some (.int .i64 jm) ∧ w'.cell? ⟨N, 6, none⟩ = some (.slice jA jl jc) ∧ w'.cell? ⟨N, 7, none⟩ = some (.slice eA en ec) ∧ w'.cell? ⟨N, 8, none⟩ = some (.slice sA sn sc) ∧ w'.cell? ⟨N, 9, none⟩ = some (.slice aA an ac) ∧ w'.cell? ⟨N, 10, none⟩ = some (.slice nA nn nc) ∧ w'.cell? ⟨N, 11, none⟩ = some (.slice pA pn pc) ∧ w'.cell? ⟨(N + 1), 0, none⟩ = some (.int .i64 op) ∧ w'.cell? ⟨(N + 1), 1, none⟩ = some (.int .i64 n) ∧ w'.cell? ⟨(N + 1), 2, none⟩ = some (.slice A len cap) ∧ w'.cell? ⟨a4, 0, none⟩ = some (.slice gO gon goc) ∧ w'.cell? ⟨a4, 1, none⟩ = some (.slice gN gnn gnc) ∧ w'.cell? ⟨a4, 2, none⟩ = some (.slice zA zn zc) ∧ w'.cell? ⟨(a4 + 1 + 1), 0, none⟩ = some (.int .i64 5) ∧ w'.cell? ⟨(a4 + 1 + 1), 1, none⟩ = some (.int .i64 0) ∧ w'.cell? ⟨(a4 + 1 + 1), 2, none⟩ = some (.slice (some ⟨a4 + 1, 0, none⟩) 1 1))
          (first | exact All.out _ (by assumption))
          (first | (go_at_call 17; refine (c_wh (W := w6) (x := ⟨⟨vA, vn, vc⟩, ⟨io, im, iA, il, ic⟩, ⟨jo, jm, jA, jl, jc⟩, ⟨eA, en, ec⟩, ⟨sA, sn, sc⟩, ⟨aA, an, ac⟩, ⟨nA, nn, nc⟩, ⟨pA, pn, pc⟩⟩) (O := ⟨gO, gon, goc⟩) (N := ⟨gN, gnn, gnc⟩) (by assumption) Hrm6 Hat6 (by omega) (by assumption)).mono ?_; rintro e wx ⟨xA, xn, xc, rfl, hkx, x1, x2⟩))
        rename_i w8a aA an ac hka a1 a2 hHeld
        clear hHeld
        have hwl : ∀ u : T, whL m u (atL m) = (List.range zn).map (whAt m u (atL m)) := fun u => by unfold whL; rw [if_pos Hc.out, Hzl.out]
        have HA : Hid (Gr.RB wx wx.heap.size ⟨aA, an, ac⟩ ((List.range zn).map (whAt m t (atL m)))) := hide (by rw [← hwl]; exact (hka.out.below x1.out).more x1.out.size)
        have HB : Hid (Gr.RB wx wx.heap.size ⟨xA, xn, xc⟩ ((List.range zn).map (whAt m (negT t) (atL m)))) := hide (by rw [← hwl]; exact hkx.out)
        have HWx := x2
        have hal := HA.out.len
        have hbl := HB.out.len
        simp at hal hbl
        subst hal
        subst hbl
        clear hwl hka hkx a1 a2 x1 x2 q0 q1 q2 q3 q4 q5 q6 q7 q8 q9 q10 q11 e0 e1 e2 g0 g1 g2 n0 n1 n2 Hs7 Hb7
        have hzx := HWx.out.size
        obtain ⟨q0, q1, q2, q3, q4, q5, q6, q7, q8, q9, q10, q11, e0, e1, e2, g0, g1, g2, n0, n1, n2⟩ := All.out wx HWx
        have hs0 : ((zn : Int) != (zn : Int)) = false := by simp
        go_wp2_with fail
        clear q0 q1 q2 q3 q4 q5 q6 q7 q8 q9 q10 q11 e0 e1 e2 g0 g1 g2 n0 n1 n2
        go_loopw [69] (fun i wr => ∃ k : Nat, k ≤ zn ∧ i = .int .i64 k ∧ Below wx.heap.size wx wr) (fun i _ => zn - (intOf i).toNat)
        case atStart => exact ⟨0, Nat.zero_le _, rfl, Below.refl _ _⟩
        case round =>
          obtain ⟨k, hk, rfl, hb⟩ := hrel
          have Hbk := hide hb
          have hzr := hb.size
          by_cases hlt : k < zn
          · have hlt' : (k : Int) < (zn : Int) := by omega
            have hk0 : (0 : Int) ≤ (k : Int) := by omega
            have HbR := hide (HWx.out.trans (hb.mono hzx))
            obtain ⟨ba, oa, ea, hba, qa⟩ := gr_map (HA.out.below hb) hlt
            obtain ⟨bb, ob, eb, hbb, qb⟩ := gr_map (HB.out.below hb) hlt
            subst ea; subst eb
            obtain ⟨pb, po, p, q, r, ePs, hpb, hpk, cp, cq, cr⟩ := RVx.at_ (Hat6.out.below HbR.out) hlt
            subst ePs
            have hok := (go_ok m 700).ok _ (List.mem_of_getElem? hpk)
            have hwt : ∀ u : T, whAt m u (atL m) k = ((p == 3) && trueE m.vars u q q) := fun u => by unfold whAt; rw [Gr.getD_at hpk]
            rw [hwt] at qa qb
            have Hst : Hid (p = 3 → isSt m.vars q = true) := hide (fun h3 => by
              subst h3
              have htl := (Dom.totL_bd m.vars).1
              rcases hok with e | ⟨p2, e, _, _⟩ | ⟨s2, e, h1, h2⟩ | ⟨s2, p2, e, _, _, _, _⟩
              · simp [rootV] at e
              · simp [startV] at e
              · simp only [envV, Prod.mk.injEq] at e
                obtain ⟨_, rfl, _⟩ := e
                unfold isSt
                unfold totN at h2
                simp; omega
              · simp [sysV] at e)
            clear hok hwt hpk
            obtain ⟨q0, q1, q2, q3, q4, q5, q6, q7, q8, q9, q10, q11, e0, e1, e2, g0, g1, g2, n0, n1, n2⟩ := All.out wr HbR
            have hN0 : N < wr.heap.size := by have := HbR.out.size; omega
            have hN1 : N + 1 < wr.heap.size := by have := HbR.out.size; omega
            have hb9 : Below wr.heap.size wr (wr.alloc (.cells #[.int .i64 p, .int .i64 q, .int .i64 r] 57)) := (Below.refl _ _).alloc (Nat.le_refl _) _
            have Hb9 := hide hb9
            have hz9 : (wr.alloc (.cells #[.int .i64 p, .int .i64 q, .int .i64 r] 57)).heap.size = wr.heap.size + 1 := by simp
            have hx9 := heap_alloc_new wr (.cells #[.int .i64 p, .int .i64 q, .int .i64 r] 57)
            have Hx9 := hide hx9
            clear hb9 hx9 hb
            go_upto_region 13 with fail
            have Hqa := hide qa
            have Hqb := hide qb
            clear q0 q1 q2 q3 q4 q5 q6 q7 q8 q9 q10 q11 e0 e1 e2 g0 g1 g2 n0 n1 n2 cp cq cr qa qb hN0 hN1
            generalize wr.alloc (.cells #[.int .i64 p, .int .i64 q, .int .i64 r] 57) = w9 at *
            generalize hX : wr.heap.size = X at *
            have HbR9 := hide (HbR.out.trans (Hb9.out.mono (by have := HbR.out.size; omega)))
            obtain ⟨q0, q1, q2, q3, q4, q5, q6, q7, q8, q9, q10, q11, e0, e1, e2, g0, g1, g2, n0, n1, n2⟩ := All.out w9 HbR9
            have y1 : w9.cell? ⟨X, 1, none⟩ = some (.int .i64 q) := by rw [Lib.cell_of_heap Hx9.out]; rfl
            go_wp2_with fail
            refine (dval_any w6.heap.size vA vn vc m.vars d op n A len cap t q q w9 Ho.out.1 Ho.out.2.1 Ho.out.2.2.1 HbR9.out.size (Hre6.out.below HbR9.out) (Hrm6.out.2.1.below HbR9.out) Ho.out.2.2.2).mono ?_
            rintro e w10 ⟨rfl, hb10⟩
            clear q0 q1 q2 q3 q4 q5 q6 q7 q8 q9 q10 q11 e0 e1 e2 g0 g1 g2 n0 n1 n2 y1
            have y0 : w10.cell? ⟨X, 0, none⟩ = some (.int .i64 p) := (hb10.cell (p := ⟨X, 0, none⟩) (by show X < _; omega)).trans (by rw [Lib.cell_of_heap Hx9.out]; rfl)
            have qa := (hb10.cell (p := ⟨ba, oa + k, none⟩) (by show ba < _; omega)).trans ((Hb9.out.cell (p := ⟨ba, oa + k, none⟩) (by show ba < _; omega)).trans Hqa.out)
            have qb := (hb10.cell (p := ⟨bb, ob + k, none⟩) (by show bb < _; omega)).trans ((Hb9.out.cell (p := ⟨bb, ob + k, none⟩) (by show bb < _; omega)).trans Hqb.out)
            have Hbk2 := hide (Hbk.out.trans ((Hb9.out.trans (hb10.mono (by omega))).mono (by omega)))
            clear hb10 Hqa Hqb
            by_cases h3 : p = 3
            · have hw := where_not Hnd.out (fun hs x hv => bool_two hs x hv) (Hst.out h3)
              subst h3
              simp only [beq_self_eq_true, Bool.true_and] at qa qb
              generalize trueE m.vars t q q = tp at *
              generalize trueE m.vars (negT t) q q = tq at *
              generalize valE m.vars t q q = ve at *
              obtain ⟨v1, v2⟩ := ve
              simp only at hw
              have Hw := hide hw
              clear hw Hst
              cases hv2 : v2 == 0
              all_goals cases tp
              all_goals cases tq
              all_goals first
                | exact (Hw.out.1 rfl rfl).elim
                | exact (Hw.out.2 (by simpa using hv2) rfl rfl).elim
                | skip
              all_goals
                go_wp2_with fail
                go_roundw
                case rel => exact ⟨k + 1, by omega, by go_num, Hbk2.out⟩
                case measure => simp [intOf]; omega
            · have hp1 : (p == 3) = false := by simp [h3]
              have hp2 : (p != 3) = true := by simp [h3]
              rw [hp1] at qa qb
              simp only [Bool.false_and] at qa qb
              clear h3 Hst
              go_wp2_with fail
              go_roundw
              case rel => exact ⟨k + 1, by omega, by go_num, Hbk2.out⟩
              case measure => simp [intOf]; omega
          · have hlt' : ¬ (k : Int) < (zn : Int) := by omega
            go_wp2_with fail
            refine (awake_any _).mono ?_
            rintro e w9 ⟨rfl, hb9⟩
            have Hf := hide (Hb6w.out.trans ((HWx.out.trans ((hb.trans (hb9.mono hb.size)).mono hzx)).mono (by omega)))
            clear hb9
            go_wp2_with fail
            go_ret
            exact ⟨rfl, by rw [hN]; exact Hf.out⟩
      · have hndb : (needE m.vars (negT t) 1 true false false != 0) = true := by simp [hnd]
        clear hnd
        go_wp2_with fail
        refine (awake_any w7).mono ?_
        rintro e w8 ⟨rfl, hb8⟩
        have Hf := hide (Hb6w.out.trans ((Hb7.out.trans (hb8.mono Hb7.out.size)).mono (by omega)))
        clear hb8
        go_wp2_with fail
        go_ret
        exact ⟨rfl, by rw [hN]; exact Hf.out⟩
    · have hcb : (modE m != 0) = true := by simp [hc]
      refine wp_region_quiet_below (by kernel_rfl) (by kernel_rfl) ?_
      repeat (go_big_quiet_step (first | (go_at_call 8; exact q_hv6 (x := ⟨⟨vA, vn, vc⟩, ⟨io, im, iA, il, ic⟩, ⟨jo, jm, jA, jl, jc⟩, ⟨eA, en, ec⟩, ⟨sA, sn, sc⟩, ⟨aA, an, ac⟩, ⟨nA, nn, nc⟩, ⟨pA, pn, pc⟩⟩) hBW Hrm) | (go_at_call 9; exact q_heavy hBW Hre) | (go_at_call 23; exact q_mod6 (x := ⟨⟨vA, vn, vc⟩, ⟨io, im, iA, il, ic⟩, ⟨jo, jm, jA, jl, jc⟩, ⟨eA, en, ec⟩, ⟨sA, sn, sc⟩, ⟨aA, an, ac⟩, ⟨nA, nn, nc⟩, ⟨pA, pn, pc⟩⟩) hBW Hrm)))
      refine wpQuiet_nil ?_
      intro w3 hw3
      obtain ⟨p, hp3⟩ := hw3
      have hb3 : Below W.heap.size W w3 := by rw [hp3]; exact below_regrown W p.d p.os
      have Hb3 := hide (Hb.out.trans (hb3.mono (by omega)))
      clear hp3 hb3 r0 r1 r2 r3 r4 r5 r6 r7 r8 r9 r10 r11 C0 C1 C2
      go_wp2_with fail
      refine (awake_any w3).mono ?_
      rintro e w4 ⟨rfl, hb4⟩
      have Hf := hide (Hb3.out.trans (hb4.mono Hb3.out.size))
      clear hb4
      go_wp2_with fail
      go_ret
      exact ⟨rfl, Hf.out⟩
end Go.Proofs.YtbppdalfcldodaaGreat
