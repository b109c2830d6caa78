/- ShowApart: two modules that may be have one text just if they are the same. -/
import Derived.Test.YtjpphjmehgflpaaDoorHAwake
import Derived.Test.YtjpphjmehgflpaaDoorMHeavy
import Derived.Lib.QuietBelow
import Derived.BigQuiet
namespace Go.Proofs.YtjpphjmehgflpaaDoor
open Go.RowKit Ex
open Go.Sort (grow)
set_option linter.unusedSimpArgs false
set_option linter.unusedVariables false

theorem q_hvx {W : World} {B : Nat} {x : M8} {m : MT} {dd : Nat} {os : Array Obj} (hB : B ≤ W.heap.size) (Hrm : Hid (RM W B x m)) : Calls Tryd.prog 6 #[.agg x.cells] (grow (redrawn W dd) os) fun e w'' => e = .returned (.int .i64 (hvM m)) ∧ ∃ p : Regrown, w'' = grow (redrawn W p.d) p.os :=
  Calls.regrown_of (hvx_any B x m _ (Nat.le_trans hB (below_regrown W dd os).size) (Hrm.out.below ((below_regrown W dd os).mono hB)))
theorem q_showM {W : World} {B : Nat} {x : M8} {m : MT} {dd : Nat} {os : Array Obj} (hB : B ≤ W.heap.size) (Hrm : Hid (RM W B x m)) (HT : Hid (TB W.heap.size W)) : Calls Tryd.prog 8 #[.agg x.cells] (grow (redrawn W dd) os) fun e w'' => e = .returned (.string (bytesOf (showM m))) ∧ ∃ p : Regrown, w'' = grow (redrawn W p.d) p.os :=
  Calls.regrown_of (showM_any B x m _ (Nat.le_trans hB (below_regrown W dd os).size) (Hrm.out.below ((below_regrown W dd os).mono hB)) (HT.out.up (below_regrown W dd os)))
theorem cellsM {w : World} {b : Nat} {x : M8} (h : w.heap[b]? = some (.cells x.cells 28 (0, 0))) (i : Nat) (v : Value) (hv : x.cells[i]? = some v) : w.cell? ⟨b, i, none⟩ = some v := by rw [Lib.cell_of_heap h]; exact hv

theorem bytes_list (l : List UInt8) : (bytesOf l).toList = l := by rw [ByteArray.toList_eq]; rfl
theorem show_empty (m : MT) : (bytesOf (showM m)).toList.isEmpty = !(modE m == 0) := by
  rw [bytes_list]
  unfold showM
  by_cases h : modE m = 0
  · rw [if_pos h, h]
    cases e : modT m with
    | nil => exact absurd e (mod_ne m)
    | cons _ _ => rfl
  · rw [if_neg h]
    have : (modE m == 0) = false := by simp [h]
    rw [this]; rfl
theorem show_same (m k : MT) (hm : modE m = 0) (hk : modE k = 0) : ((bytesOf (showM m)).toList == (bytesOf (showM k)).toList) = modS m k := by
  rw [bytes_list, bytes_list]
  unfold showM
  rw [if_pos hm, if_pos hk]
  exact mod_same hm hk

set_option maxRecDepth 100000 in
set_option maxHeartbeats 8000000 in
theorem apart_any (B : Nat) (x y : M8) (m k : MT) (w : World) (hB : B ≤ w.heap.size) (hrm : RM w B x m) (hrk : RM w B y k) (hT : TB w.heap.size w) :
    Calls Tryd.prog 3 #[.agg x.cells, .agg y.cells] w fun e w' => e = .returned (.bool true) ∧ Below w.heap.size w w' := by
  obtain ⟨hx, hy, hbn, hzn⟩ := two_blk w x.cells y.cells 28
  have Hrm := hide (hrm.below (hbn.mono hB))
  have Hrk := hide (hrk.below (hbn.mono hB))
  have HT := hide (hT.up hbn)
  have Hbn := hide hbn
  have Hx := hide hx; have Hy := hide hy
  clear hrm hrk hT hbn hx hy
  obtain ⟨⟨vA, vn, vc⟩, ⟨io, im, iA, il, ic⟩, ⟨jo, jm, jA, jl, jc⟩, ⟨eA, en, ec⟩, ⟨sA, sn, sc⟩, ⟨aA, an, ac⟩, ⟨nA, nn, nc⟩, ⟨pA, pn, pc⟩⟩ := x
  obtain ⟨⟨vA2, vn2, vc2⟩, ⟨io2, im2, iA2, il2, ic2⟩, ⟨jo2, jm2, jA2, jl2, jc2⟩, ⟨eA2, en2, ec2⟩, ⟨sA2, sn2, sc2⟩, ⟨aA2, an2, ac2⟩, ⟨nA2, nn2, nc2⟩, ⟨pA2, pn2, pc2⟩⟩ := y
  simp only [M8.cells, SL.v] at *
  go_enter Tryd.func3, Tryd.ntmps3
  go_wp2_with fail
  generalize (w.alloc (.cells #[.slice vA vn vc, .int .i64 io, .int .i64 im, .slice iA il ic, .int .i64 jo, .int .i64 jm, .slice jA jl jc, .slice eA en ec, .slice sA sn sc, .slice aA an ac, .slice nA nn nc, .slice pA pn pc] 28)).alloc (.cells #[.slice vA2 vn2 vc2, .int .i64 io2, .int .i64 im2, .slice iA2 il2 ic2, .int .i64 jo2, .int .i64 jm2, .slice jA2 jl2 jc2, .slice eA2 en2 ec2, .slice sA2 sn2 sc2, .slice aA2 an2 ac2, .slice nA2 nn2 nc2, .slice pA2 pn2 pc2] 28) = W at *
  have hBW : B ≤ W.heap.size := by omega
  obtain ⟨h1a, h1b⟩ := hvM_bd m
  obtain ⟨h2a, h2b⟩ := hvM_bd k
  have Hc6 : Hid (∀ (a r : Value) dd os, ((a = .agg #[.slice vA vn vc, .int .i64 io, .int .i64 im, .slice iA il ic, .int .i64 jo, .int .i64 jm, .slice jA jl jc, .slice eA en ec, .slice sA sn sc, .slice aA an ac, .slice nA nn nc, .slice pA pn pc] ∧ r = .int .i64 (hvM m)) ∨ (a = .agg #[.slice vA2 vn2 vc2, .int .i64 io2, .int .i64 im2, .slice iA2 il2 ic2, .int .i64 jo2, .int .i64 jm2, .slice jA2 jl2 jc2, .slice eA2 en2 ec2, .slice sA2 sn2 sc2, .slice aA2 an2 ac2, .slice nA2 nn2 nc2, .slice pA2 pn2 pc2] ∧ r = .int .i64 (hvM k))) → Calls Tryd.prog 6 #[a] (grow (redrawn W dd) os) fun e w'' => e = .returned r ∧ ∃ p : Regrown, w'' = grow (redrawn W p.d) p.os) := hide (fun a r dd os h => by
    rcases h with ⟨rfl, rfl⟩ | ⟨rfl, rfl⟩
    · exact q_hvx (x := ⟨⟨vA, vn, vc⟩, ⟨io, im, iA, il, ic⟩, ⟨jo, jm, jA, jl, jc⟩, ⟨eA, en, ec⟩, ⟨sA, sn, sc⟩, ⟨aA, an, ac⟩, ⟨nA, nn, nc⟩, ⟨pA, pn, pc⟩⟩) hBW Hrm
    · exact q_hvx (x := ⟨⟨vA2, vn2, vc2⟩, ⟨io2, im2, iA2, il2, ic2⟩, ⟨jo2, jm2, jA2, jl2, jc2⟩, ⟨eA2, en2, ec2⟩, ⟨sA2, sn2, sc2⟩, ⟨aA2, an2, ac2⟩, ⟨nA2, nn2, nc2⟩, ⟨pA2, pn2, pc2⟩⟩) hBW Hrk)
  have C0 := cell_regrown (blk_cell Hx.out 0 rfl)
  have C1 := cell_regrown (blk_cell Hx.out 1 rfl)
  have C2 := cell_regrown (blk_cell Hx.out 2 rfl)
  have C3 := cell_regrown (blk_cell Hx.out 3 rfl)
  have C4 := cell_regrown (blk_cell Hx.out 4 rfl)
  have C5 := cell_regrown (blk_cell Hx.out 5 rfl)
  have C6 := cell_regrown (blk_cell Hx.out 6 rfl)
  have C7 := cell_regrown (blk_cell Hx.out 7 rfl)
  have C8 := cell_regrown (blk_cell Hx.out 8 rfl)
  have C9 := cell_regrown (blk_cell Hx.out 9 rfl)
  have C10 := cell_regrown (blk_cell Hx.out 10 rfl)
  have C11 := cell_regrown (blk_cell Hx.out 11 rfl)
  have E0 := cell_regrown (blk_cell Hy.out 0 rfl)
  have E1 := cell_regrown (blk_cell Hy.out 1 rfl)
  have E2 := cell_regrown (blk_cell Hy.out 2 rfl)
  have E3 := cell_regrown (blk_cell Hy.out 3 rfl)
  have E4 := cell_regrown (blk_cell Hy.out 4 rfl)
  have E5 := cell_regrown (blk_cell Hy.out 5 rfl)
  have E6 := cell_regrown (blk_cell Hy.out 6 rfl)
  have E7 := cell_regrown (blk_cell Hy.out 7 rfl)
  have E8 := cell_regrown (blk_cell Hy.out 8 rfl)
  have E9 := cell_regrown (blk_cell Hy.out 9 rfl)
  have E10 := cell_regrown (blk_cell Hy.out 10 rfl)
  have E11 := cell_regrown (blk_cell Hy.out 11 rfl)
  by_cases hh : 0 < hvM m + hvM k
  · have hhb : decide (0 < hvM m + hvM k) = true := by simp [hh]
    refine wp_region_quiet_below (by kernel_rfl) (by kernel_rfl) ?_
    repeat (go_big_quiet_step ((go_at_call 6; exact Hc6.out _ _ _ _ (by first | exact Or.inl ⟨rfl, rfl⟩ | exact Or.inr ⟨rfl, rfl⟩))))
    refine wpQuiet_nil ?_
    intro w1 hw
    obtain ⟨p, hp⟩ := hw
    have hb : Below W.heap.size W w1 := by rw [hp]; exact below_regrown W p.d p.os
    have hzw1 := hb.size
    have Hb1 := hide (Hbn.out.trans (hb.mono (by omega)))
    have HT1 := hide (HT.out.up hb)
    clear hp hb Hc6 C0 C1 C2 C3 C4 C5 C6 C7 C8 C9 C10 C11 E0 E1 E2 E3 E4 E5 E6 E7 E8 E9 E10 E11
    go_wp2_with fail
    refine (awake_any _ HT1.out).mono ?_
    rintro e w2 ⟨rfl, hb2⟩
    have Hb2 := hide (Hb1.out.trans (hb2.mono (by omega)))
    clear hb2
    go_wp2_with fail
    go_ret
    exact ⟨rfl, Hb2.out⟩
  · have hhb : decide (0 < hvM m + hvM k) = false := by simp; omega
    refine wp_region_quiet_below (by kernel_rfl) (by kernel_rfl) ?_
    repeat (go_big_quiet_step ((go_at_call 6; exact Hc6.out _ _ _ _ (by first | exact Or.inl ⟨rfl, rfl⟩ | exact Or.inr ⟨rfl, rfl⟩))))
    refine wpQuiet_nil ?_
    intro w1 hw
    obtain ⟨p, hp⟩ := hw
    have hb : Below W.heap.size W w1 := by rw [hp]; exact below_regrown W p.d p.os
    have hzw1 := hb.size
    have Hb1 := hide (Hbn.out.trans (hb.mono (by omega)))
    have HT1 := hide (HT.out.up hb)
    have Hrm1 := hide (Hrm.out.below (hb.mono hBW))
    have Hrk1 := hide (Hrk.out.below (hb.mono hBW))
    have Hx1 := hide ((hb.block w.heap.size (by omega)).trans Hx.out)
    have Hy1 := hide ((hb.block (w.heap.size + 1) (by omega)).trans Hy.out)
    clear hp hb Hc6 Hbn HT Hrm Hrk Hx Hy C0 C1 C2 C3 C4 C5 C6 C7 C8 C9 C10 C11 E0 E1 E2 E3 E4 E5 E6 E7 E8 E9 E10 E11
    have hBW1 : B ≤ w1.heap.size := by omega
    have Hc8 : Hid (∀ (a r : Value) dd os, ((a = .agg #[.slice vA vn vc, .int .i64 io, .int .i64 im, .slice iA il ic, .int .i64 jo, .int .i64 jm, .slice jA jl jc, .slice eA en ec, .slice sA sn sc, .slice aA an ac, .slice nA nn nc, .slice pA pn pc] ∧ r = .string (bytesOf (showM m))) ∨ (a = .agg #[.slice vA2 vn2 vc2, .int .i64 io2, .int .i64 im2, .slice iA2 il2 ic2, .int .i64 jo2, .int .i64 jm2, .slice jA2 jl2 jc2, .slice eA2 en2 ec2, .slice sA2 sn2 sc2, .slice aA2 an2 ac2, .slice nA2 nn2 nc2, .slice pA2 pn2 pc2] ∧ r = .string (bytesOf (showM k)))) → Calls Tryd.prog 8 #[a] (grow (redrawn w1 dd) os) fun e w'' => e = .returned r ∧ ∃ p : Regrown, w'' = grow (redrawn w1 p.d) p.os) := hide (fun a r dd os h => by
      rcases h with ⟨rfl, rfl⟩ | ⟨rfl, rfl⟩
      · exact q_showM (x := ⟨⟨vA, vn, vc⟩, ⟨io, im, iA, il, ic⟩, ⟨jo, jm, jA, jl, jc⟩, ⟨eA, en, ec⟩, ⟨sA, sn, sc⟩, ⟨aA, an, ac⟩, ⟨nA, nn, nc⟩, ⟨pA, pn, pc⟩⟩) hBW1 Hrm1 HT1
      · exact q_showM (x := ⟨⟨vA2, vn2, vc2⟩, ⟨io2, im2, iA2, il2, ic2⟩, ⟨jo2, jm2, jA2, jl2, jc2⟩, ⟨eA2, en2, ec2⟩, ⟨sA2, sn2, sc2⟩, ⟨aA2, an2, ac2⟩, ⟨nA2, nn2, nc2⟩, ⟨pA2, pn2, pc2⟩⟩) hBW1 Hrk1 HT1)
    have C0 := cell_regrown (blk_cell Hx1.out 0 rfl)
    have C1 := cell_regrown (blk_cell Hx1.out 1 rfl)
    have C2 := cell_regrown (blk_cell Hx1.out 2 rfl)
    have C3 := cell_regrown (blk_cell Hx1.out 3 rfl)
    have C4 := cell_regrown (blk_cell Hx1.out 4 rfl)
    have C5 := cell_regrown (blk_cell Hx1.out 5 rfl)
    have C6 := cell_regrown (blk_cell Hx1.out 6 rfl)
    have C7 := cell_regrown (blk_cell Hx1.out 7 rfl)
    have C8 := cell_regrown (blk_cell Hx1.out 8 rfl)
    have C9 := cell_regrown (blk_cell Hx1.out 9 rfl)
    have C10 := cell_regrown (blk_cell Hx1.out 10 rfl)
    have C11 := cell_regrown (blk_cell Hx1.out 11 rfl)
    have E0 := cell_regrown (blk_cell Hy1.out 0 rfl)
    have E1 := cell_regrown (blk_cell Hy1.out 1 rfl)
    have E2 := cell_regrown (blk_cell Hy1.out 2 rfl)
    have E3 := cell_regrown (blk_cell Hy1.out 3 rfl)
    have E4 := cell_regrown (blk_cell Hy1.out 4 rfl)
    have E5 := cell_regrown (blk_cell Hy1.out 5 rfl)
    have E6 := cell_regrown (blk_cell Hy1.out 6 rfl)
    have E7 := cell_regrown (blk_cell Hy1.out 7 rfl)
    have E8 := cell_regrown (blk_cell Hy1.out 8 rfl)
    have E9 := cell_regrown (blk_cell Hy1.out 9 rfl)
    have E10 := cell_regrown (blk_cell Hy1.out 10 rfl)
    have E11 := cell_regrown (blk_cell Hy1.out 11 rfl)
    go_wp2_with fail
    refine wp_region_quiet_below (by kernel_rfl) (by kernel_rfl) ?_
    repeat (go_big_quiet_step ((go_at_call 8; exact Hc8.out _ _ _ _ (by first | exact Or.inl ⟨rfl, rfl⟩ | exact Or.inr ⟨rfl, rfl⟩))))
    refine wpQuiet_nil ?_
    intro w2 hw
    obtain ⟨p, hp⟩ := hw
    have hb : Below w1.heap.size w1 w2 := by rw [hp]; exact below_regrown w1 p.d p.os
    have hzw2 := hb.size
    have Hb2 := hide (Hb1.out.trans (hb.mono (by omega)))
    have HT2 := hide (HT1.out.up hb)
    have Hrm2 := hide (Hrm1.out.below (hb.mono hBW1))
    have Hrk2 := hide (Hrk1.out.below (hb.mono hBW1))
    have Hx2 := hide ((hb.block w.heap.size (by omega)).trans Hx1.out)
    have Hy2 := hide ((hb.block (w.heap.size + 1) (by omega)).trans Hy1.out)
    clear hp hb Hc8 Hb1 HT1 Hrm1 Hrk1 Hx1 Hy1 C0 C1 C2 C3 C4 C5 C6 C7 C8 C9 C10 C11 E0 E1 E2 E3 E4 E5 E6 E7 E8 E9 E10 E11
    have c0 := blk_cell Hx2.out 0 rfl
    have c1 := blk_cell Hx2.out 1 rfl
    have c2 := blk_cell Hx2.out 2 rfl
    have c3 := blk_cell Hx2.out 3 rfl
    have c4 := blk_cell Hx2.out 4 rfl
    have c5 := blk_cell Hx2.out 5 rfl
    have c6 := blk_cell Hx2.out 6 rfl
    have c7 := blk_cell Hx2.out 7 rfl
    have c8 := blk_cell Hx2.out 8 rfl
    have c9 := blk_cell Hx2.out 9 rfl
    have c10 := blk_cell Hx2.out 10 rfl
    have c11 := blk_cell Hx2.out 11 rfl
    go_wp2_with fail
    refine (dmod_any B ⟨⟨vA, vn, vc⟩, ⟨io, im, iA, il, ic⟩, ⟨jo, jm, jA, jl, jc⟩, ⟨eA, en, ec⟩, ⟨sA, sn, sc⟩, ⟨aA, an, ac⟩, ⟨nA, nn, nc⟩, ⟨pA, pn, pc⟩⟩ m w2 (by omega) Hrm2.out).mono ?_
    rintro e w3 ⟨rfl, hb3⟩
    have Hb3 := hide (Hb2.out.trans (hb3.mono (by omega)))
    have HT3 := hide (HT2.out.up hb3)
    have Hrm3 := hide (Hrm2.out.below (hb3.mono (by omega)))
    have Hrk3 := hide (Hrk2.out.below (hb3.mono (by omega)))
    have Hx3 := hide ((hb3.block w.heap.size (by omega)).trans Hx2.out)
    have Hy3 := hide ((hb3.block (w.heap.size + 1) (by omega)).trans Hy2.out)
    have hz3 := hb3.size
    clear hb3 Hb2 HT2 Hrm2 Hrk2 Hx2 Hy2 c0 c1 c2 c3 c4 c5 c6 c7 c8 c9 c10 c11
    have HF1 : Hid ((bytesOf (showM m)).toList.isEmpty = !(modE m == 0)) := hide (show_empty m)
    have HF2 : Hid ((bytesOf (showM k)).toList.isEmpty = !(modE k == 0)) := hide (show_empty k)
    have HF3 : Hid (modE m = 0 → modE k = 0 → ((bytesOf (showM m)).toList == (bytesOf (showM k)).toList) = modS m k) := hide (show_same m k)
    generalize hS1 : bytesOf (showM m) = S1 at *
    generalize hS2 : bytesOf (showM k) = S2 at *
    clear hS1 hS2
    have e0 := blk_cell Hy3.out 0 rfl
    have e1 := blk_cell Hy3.out 1 rfl
    have e2 := blk_cell Hy3.out 2 rfl
    have e3 := blk_cell Hy3.out 3 rfl
    have e4 := blk_cell Hy3.out 4 rfl
    have e5 := blk_cell Hy3.out 5 rfl
    have e6 := blk_cell Hy3.out 6 rfl
    have e7 := blk_cell Hy3.out 7 rfl
    have e8 := blk_cell Hy3.out 8 rfl
    have e9 := blk_cell Hy3.out 9 rfl
    have e10 := blk_cell Hy3.out 10 rfl
    have e11 := blk_cell Hy3.out 11 rfl
    by_cases hm : modE m = 0
    · have hmb : (modE m == 0) = true := by simp [hm]
      have hs1 : S1.toList.isEmpty = false := by rw [HF1.out, hmb]; rfl
      have Hm := hide hm; clear hm
      go_wp2_with fail
      refine (dmod_any B ⟨⟨vA2, vn2, vc2⟩, ⟨io2, im2, iA2, il2, ic2⟩, ⟨jo2, jm2, jA2, jl2, jc2⟩, ⟨eA2, en2, ec2⟩, ⟨sA2, sn2, sc2⟩, ⟨aA2, an2, ac2⟩, ⟨nA2, nn2, nc2⟩, ⟨pA2, pn2, pc2⟩⟩ k w3 (by omega) Hrk3.out).mono ?_
      rintro e w4 ⟨rfl, hb4⟩
      have Hb4 := hide (Hb3.out.trans (hb4.mono (by omega)))
      have HT4 := hide (HT3.out.up hb4)
      have Hrm4 := hide (Hrm3.out.below (hb4.mono (by omega)))
      have Hrk4 := hide (Hrk3.out.below (hb4.mono (by omega)))
      have Hx4 := hide ((hb4.block w.heap.size (by omega)).trans Hx3.out)
      have Hy4 := hide ((hb4.block (w.heap.size + 1) (by omega)).trans Hy3.out)
      have hz4 := hb4.size
      clear hb4 Hb3 HT3 Hrm3 Hrk3 Hx3 Hy3 e0 e1 e2 e3 e4 e5 e6 e7 e8 e9 e10 e11
      by_cases hk : modE k = 0
      · have hkb : (modE k == 0) = true := by simp [hk]
        have hs2 : S2.toList.isEmpty = false := by rw [HF2.out, hkb]; rfl
        have hsame : (S1.toList == S2.toList) = modS m k := HF3.out Hm.out hk
        have Hk := hide hk; clear hk
        have c0 := blk_cell Hx4.out 0 rfl
        have c1 := blk_cell Hx4.out 1 rfl
        have c2 := blk_cell Hx4.out 2 rfl
        have c3 := blk_cell Hx4.out 3 rfl
        have c4 := blk_cell Hx4.out 4 rfl
        have c5 := blk_cell Hx4.out 5 rfl
        have c6 := blk_cell Hx4.out 6 rfl
        have c7 := blk_cell Hx4.out 7 rfl
        have c8 := blk_cell Hx4.out 8 rfl
        have c9 := blk_cell Hx4.out 9 rfl
        have c10 := blk_cell Hx4.out 10 rfl
        have c11 := blk_cell Hx4.out 11 rfl
        have e0 := blk_cell Hy4.out 0 rfl
        have e1 := blk_cell Hy4.out 1 rfl
        have e2 := blk_cell Hy4.out 2 rfl
        have e3 := blk_cell Hy4.out 3 rfl
        have e4 := blk_cell Hy4.out 4 rfl
        have e5 := blk_cell Hy4.out 5 rfl
        have e6 := blk_cell Hy4.out 6 rfl
        have e7 := blk_cell Hy4.out 7 rfl
        have e8 := blk_cell Hy4.out 8 rfl
        have e9 := blk_cell Hy4.out 9 rfl
        have e10 := blk_cell Hy4.out 10 rfl
        have e11 := blk_cell Hy4.out 11 rfl
        go_wp2_with fail
        refine (dsame_any B ⟨⟨vA, vn, vc⟩, ⟨io, im, iA, il, ic⟩, ⟨jo, jm, jA, jl, jc⟩, ⟨eA, en, ec⟩, ⟨sA, sn, sc⟩, ⟨aA, an, ac⟩, ⟨nA, nn, nc⟩, ⟨pA, pn, pc⟩⟩ ⟨⟨vA2, vn2, vc2⟩, ⟨io2, im2, iA2, il2, ic2⟩, ⟨jo2, jm2, jA2, jl2, jc2⟩, ⟨eA2, en2, ec2⟩, ⟨sA2, sn2, sc2⟩, ⟨aA2, an2, ac2⟩, ⟨nA2, nn2, nc2⟩, ⟨pA2, pn2, pc2⟩⟩ m k w4 (by omega) Hrm4.out Hrk4.out).mono ?_
        rintro e w5 ⟨rfl, hb5⟩
        have Hb5 := hide (Hb4.out.trans (hb5.mono (by omega)))
        have HT5 := hide (HT4.out.up hb5)
        have hz5 := hb5.size
        clear hb5 c0 c1 c2 c3 c4 c5 c6 c7 c8 c9 c10 c11 e0 e1 e2 e3 e4 e5 e6 e7 e8 e9 e10 e11
        go_wp2_with fail
        refine (awake_any _ HT5.out).mono ?_
        rintro e w9 ⟨rfl, hb9⟩
        have Hb9 := hide (Hb5.out.trans (hb9.mono (by omega)))
        clear hb9
        go_wp2_with fail
        go_ret
        exact ⟨rfl, Hb9.out⟩
      · have hkb : (modE k == 0) = false := by simp [hk]
        have hs2 : S2.toList.isEmpty = true := by rw [HF2.out, hkb]; rfl
        have Hk := hide hk; clear hk
        go_wp2_with fail
        refine (awake_any _ HT4.out).mono ?_
        rintro e w9 ⟨rfl, hb9⟩
        have Hb9 := hide (Hb4.out.trans (hb9.mono (by omega)))
        clear hb9
        go_wp2_with fail
        go_ret
        exact ⟨rfl, Hb9.out⟩
    · have hmb : (modE m == 0) = false := by simp [hm]
      have hs1 : S1.toList.isEmpty = true := by rw [HF1.out, hmb]; rfl
      have Hm := hide hm; clear hm
      go_wp2_with fail
      refine (dmod_any B ⟨⟨vA2, vn2, vc2⟩, ⟨io2, im2, iA2, il2, ic2⟩, ⟨jo2, jm2, jA2, jl2, jc2⟩, ⟨eA2, en2, ec2⟩, ⟨sA2, sn2, sc2⟩, ⟨aA2, an2, ac2⟩, ⟨nA2, nn2, nc2⟩, ⟨pA2, pn2, pc2⟩⟩ k w3 (by omega) Hrk3.out).mono ?_
      rintro e w4 ⟨rfl, hb4⟩
      have Hb4 := hide (Hb3.out.trans (hb4.mono (by omega)))
      have HT4 := hide (HT3.out.up hb4)
      have Hrm4 := hide (Hrm3.out.below (hb4.mono (by omega)))
      have Hrk4 := hide (Hrk3.out.below (hb4.mono (by omega)))
      have Hx4 := hide ((hb4.block w.heap.size (by omega)).trans Hx3.out)
      have Hy4 := hide ((hb4.block (w.heap.size + 1) (by omega)).trans Hy3.out)
      have hz4 := hb4.size
      clear hb4 Hb3 HT3 Hrm3 Hrk3 Hx3 Hy3 e0 e1 e2 e3 e4 e5 e6 e7 e8 e9 e10 e11
      by_cases hk : modE k = 0
      · have hkb : (modE k == 0) = true := by simp [hk]
        have hs2 : S2.toList.isEmpty = false := by rw [HF2.out, hkb]; rfl
        have Hk := hide hk; clear hk
        go_wp2_with fail
        refine (awake_any _ HT4.out).mono ?_
        rintro e w9 ⟨rfl, hb9⟩
        have Hb9 := hide (Hb4.out.trans (hb9.mono (by omega)))
        clear hb9
        go_wp2_with fail
        go_ret
        exact ⟨rfl, Hb9.out⟩
      · have hkb : (modE k == 0) = false := by simp [hk]
        have hs2 : S2.toList.isEmpty = true := by rw [HF2.out, hkb]; rfl
        have Hk := hide hk; clear hk
        go_wp2_with fail
        refine (awake_any _ HT4.out).mono ?_
        rintro e w9 ⟨rfl, hb9⟩
        have Hb9 := hide (Hb4.out.trans (hb9.mono (by omega)))
        clear hb9
        go_wp2_with fail
        go_ret
        exact ⟨rfl, Hb9.out⟩
end Go.Proofs.YtjpphjmehgflpaaDoor
