/- The walk of the reference's MayModule. -/
import Derived.Test.YtddbplgcglgloaaMCmdB
namespace Go.Proofs.Ytddbplgcglgloaa
open Go.RowKit Ex
open Go.Sort (grow)
set_option linter.unusedSimpArgs false
set_option linter.unusedVariables false

theorem first_zero {x : Int} {r : List Int} {y : Int} (h : y = firstE (x :: r)) (hx : x = 0) : y = firstE r := by rw [h, firstE, if_pos hx]
theorem first_not {x : Int} {r : List Int} {y : Int} (h : y = firstE (x :: r)) (hx : ¬ x = 0) : y = x := by rw [h, firstE, if_neg hx]
def BoxM (w : World) (b : Nat) (x : M8) : Prop := ∀ (i : Nat) v, x.cells[i]? = some v → w.cell? ⟨b, i, none⟩ = some v
theorem BoxM.below {w w' : World} {B b : Nat} {x : M8} (h : BoxM w b x) (hb : Below B w w') (hB : b < B) : BoxM w' b x := fun i v hv => (hb.cell (by exact hB)).trans (h i v hv)
theorem boxM_new (w : World) (x : M8) : BoxM (w.alloc (.cells x.cells 28)) w.heap.size x := fun i v hv => by
  rw [cell_of_row _ _ i x.cells 28 (0, 0) (heap_alloc_new w _)]
  exact hv
set_option maxRecDepth 100000 in
set_option maxHeartbeats 8000000 in
theorem rmod_any (B : Nat) (x : M8) (m : MT) (w : World) (hB : B ≤ w.heap.size) (hrm : RM w B x m) :
    Calls Try.prog 13 #[.agg x.cells] w fun e w' => e = .returned (.int .i64 (modE m)) ∧ Below w.heap.size w w' := by
  have hbx := (Below.refl w.heap.size w).alloc (Nat.le_refl _) (.cells x.cells 28)
  have Hrm0 := hide (hrm.below (hbx.mono hB))
  have Hbx0 := hide (boxM_new w x)
  have Hb0 := hide hbx
  have hz0 : w.heap.size + 1 ≤ (w.alloc (.cells x.cells 28)).heap.size := by simp
  have Ho := hide hrm.1
  have He := hide hrm.2.2.2.2.1
  obtain ⟨⟨vA, vn, vc⟩, ⟨io, im, iA, il, ic⟩, ⟨jo, jm, jA, jl, jc⟩, ⟨eA, en, ec⟩, ⟨sA, sn, sc⟩, ⟨aA, an, ac⟩, ⟨nA, nn, nc⟩, ⟨pA, pn, pc⟩⟩ := x
  have bE := hrm.2.2.2.2.1.2
  have bS := hrm.2.2.2.2.2.1.2
  have bA := hrm.2.2.2.2.2.2.1.2
  have bN := hrm.2.2.2.2.2.2.2.1.2
  have bP := hrm.2.2.2.2.2.2.2.2.2
  have lE := hrm.2.2.2.2.1.1
  have lS := hrm.2.2.2.2.2.1.1
  have lA := hrm.2.2.2.2.2.2.1.1
  have lN := hrm.2.2.2.2.2.2.2.1.1
  have lP := hrm.2.2.2.2.2.2.2.2.1
  simp only at lE lS lA lN lP
  have LE := hide lE; have LS := hide lS; have LA := hide lA; have LN := hide lN; have LP := hide lP
  have xE : en ≤ 2 ^ 63 - 1 := Nat.le_trans bE.1 bE.2.1
  have xS : sn ≤ 2 ^ 63 - 1 := Nat.le_trans bS.1 bS.2.1
  have xA : an ≤ 2 ^ 63 - 1 := Nat.le_trans bA.1 bA.2.1
  have xN : nn ≤ 2 ^ 63 - 1 := Nat.le_trans bN.1 bN.2.1
  have xP : pn ≤ 2 ^ 63 - 1 := Nat.le_trans bP.1 bP.2.1
  have xV : vn ≤ 2 ^ 63 - 1 := hrm.1.1
  have HM : Hid (modE m = firstE [Dom.mayL m.vars, needE m.vars m.ie 1 false false false, needE m.vars m.is 1 true false false, sizesE m, cmdsE m.vars true m.env, cmdsE m.vars false m.sys, bothE m, goalsE m.vars m.asm, goalsE m.vars m.ens, goalsE m.vars m.prio]) := hide rfl
  clear hrm hbx bE bS bA bN bP lE lS lA lN lP He
  simp only [M8.cells, SL.v] at *
  have q0 : (w.alloc (.cells #[.slice vA vn vc, .int .i64 io, .int .i64 im, .slice iA il ic, .int .i64 jo, .int .i64 jm, .slice jA jl jc, .slice eA en ec, .slice sA sn sc, .slice aA an ac, .slice nA nn nc, .slice pA pn pc] 28)).cell? ⟨w.heap.size, 0, none⟩ = some (.slice vA vn vc) := Hbx0.out 0 _ rfl
  go_enter Try.func13, Try.ntmps13
  go_wp2_with fail
  clear q0
  generalize hW : w.alloc (.cells #[.slice vA vn vc, .int .i64 io, .int .i64 im, .slice iA il ic, .int .i64 jo, .int .i64 jm, .slice jA jl jc, .slice eA en ec, .slice sA sn sc, .slice aA an ac, .slice nA nn nc, .slice pA pn pc] 28) = w0 at *
  clear hW
  have q0 : w0.cell? ⟨w.heap.size, 0, none⟩ = some (.slice vA vn vc) := Hbx0.out 0 _ rfl
  refine (Dom.rmay_any vA vn vc B m.vars w0 Ho.out.1 Ho.out.2.1 Ho.out.2.2.1 (by omega) Hrm0.out.2.1 Ho.out.2.2.2).mono ?_
  rintro e w1 ⟨rfl, hb1⟩
  clear q0
  have hz1 := hb1.size
  have Hb1 := hide (Hb0.out.trans (hb1.mono (by omega)))
  have Hrm1 := hide (Hrm0.out.below (hb1.mono (by omega)))
  have Hbx1 := hide (Hbx0.out.below hb1 (by omega))
  clear hb1 Hb0 Hrm0 Hbx0
  by_cases hx : Dom.mayL m.vars = 0
  · have hxb : (Dom.mayL m.vars != 0) = false := by simp [hx]
    have HM2 := hide (first_zero HM.out hx)
    clear hx HM
    have HM := HM2
    clear HM2
    have q1 := Hbx1.out 1 _ rfl
    have q2 := Hbx1.out 2 _ rfl
    have q3 := Hbx1.out 3 _ rfl
    obtain ⟨dg, hdg⟩ := Hrm1.out.2.2.1
    have Hdg := hide hdg
    clear hdg
    go_wp2_with fail
    clear q1 q2 q3
    refine (rneeds_any B vA vn vc m.vars dg io im iA il ic m.ie 1 false false false w1 Ho.out.1 Ho.out.2.1 Ho.out.2.2.1 (by omega) Hdg.out Hrm1.out.2.1 Ho.out.2.2.2).mono ?_
    rintro e w2 ⟨rfl, hb2⟩
    clear Hdg
    have hz2 := hb2.size
    have Hb2 := hide (Hb1.out.trans (hb2.mono (by omega)))
    have Hrm2 := hide (Hrm1.out.below (hb2.mono (by omega)))
    have Hbx2 := hide (Hbx1.out.below hb2 (by omega))
    clear hb2 Hb1 Hrm1 Hbx1
    by_cases hx : needE m.vars m.ie 1 false false false = 0
    · have hxb : (needE m.vars m.ie 1 false false false != 0) = false := by simp [hx]
      have HM2 := hide (first_zero HM.out hx)
      clear hx HM
      have HM := HM2
      clear HM2
      have q1 := Hbx2.out 4 _ rfl
      have q2 := Hbx2.out 5 _ rfl
      have q3 := Hbx2.out 6 _ rfl
      obtain ⟨dg, hdg⟩ := Hrm2.out.2.2.2.1
      have Hdg := hide hdg
      clear hdg
      go_wp2_with fail
      clear q1 q2 q3
      refine (rneeds_any B vA vn vc m.vars dg jo jm jA jl jc m.is 1 true false false w2 Ho.out.1 Ho.out.2.1 Ho.out.2.2.1 (by omega) Hdg.out Hrm2.out.2.1 Ho.out.2.2.2).mono ?_
      rintro e w3 ⟨rfl, hb3⟩
      clear Hdg
      have hz3 := hb3.size
      have Hb3 := hide (Hb2.out.trans (hb3.mono (by omega)))
      have Hrm3 := hide (Hrm2.out.below (hb3.mono (by omega)))
      have Hbx3 := hide (Hbx2.out.below hb3 (by omega))
      clear hb3 Hb2 Hrm2 Hbx2
      by_cases hx : needE m.vars m.is 1 true false false = 0
      · have hxb : (needE m.vars m.is 1 true false false != 0) = false := by simp [hx]
        have HM2 := hide (first_zero HM.out hx)
        clear hx HM
        have HM := HM2
        clear HM2
        have r1 : w3.cell? ⟨w.heap.size, 7, none⟩ = some (.slice eA en ec) := Hbx3.out 7 _ rfl
        have r2 : w3.cell? ⟨w.heap.size, 8, none⟩ = some (.slice sA sn sc) := Hbx3.out 8 _ rfl
        have r3 : w3.cell? ⟨w.heap.size, 9, none⟩ = some (.slice aA an ac) := Hbx3.out 9 _ rfl
        have r4 : w3.cell? ⟨w.heap.size, 10, none⟩ = some (.slice nA nn nc) := Hbx3.out 10 _ rfl
        have r5 : w3.cell? ⟨w.heap.size, 11, none⟩ = some (.slice pA pn pc) := Hbx3.out 11 _ rfl
        by_cases hs0 : 12 < en
        · have hsb0 : decide ((12 : Int) < (en : Int)) = true := by simp; omega
          have hsc0 : decide (12 < en) = true := by simp; omega
          have hsz7 : sizesE m = 7 := by
            unfold sizesE
            rw [if_pos (.inl (by rw [LE.out]; exact hs0))]
          have Hf : Hid (modE m = 7) := hide ((first_not HM.out (by rw [hsz7]; omega)).trans hsz7)
          clear hsz7 HM
          go_wp2_with fail
          go_ret
          exact ⟨ret_int Hf.out.symm, Hb3.out⟩
        · have hsb0 : decide ((12 : Int) < (en : Int)) = false := by simp; omega
          have hsc0 : decide (12 < en) = false := by simp; omega
          by_cases hs1 : 12 < sn
          · have hsb1 : decide ((12 : Int) < (sn : Int)) = true := by simp; omega
            have hsc1 : decide (12 < sn) = true := by simp; omega
            have hsz7 : sizesE m = 7 := by
              unfold sizesE
              rw [if_pos (.inr (.inl (by rw [LS.out]; exact hs1)))]
            have Hf : Hid (modE m = 7) := hide ((first_not HM.out (by rw [hsz7]; omega)).trans hsz7)
            clear hsz7 HM
            go_wp2_with fail
            go_ret
            exact ⟨ret_int Hf.out.symm, Hb3.out⟩
          · have hsb1 : decide ((12 : Int) < (sn : Int)) = false := by simp; omega
            have hsc1 : decide (12 < sn) = false := by simp; omega
            by_cases hs2 : 4 < an
            · have hsb2 : decide ((4 : Int) < (an : Int)) = true := by simp; omega
              have hsc2 : decide (4 < an) = true := by simp; omega
              have hsz7 : sizesE m = 7 := by
                unfold sizesE
                rw [if_pos (.inr (.inr (.inl (by rw [LA.out]; exact hs2))))]
              have Hf : Hid (modE m = 7) := hide ((first_not HM.out (by rw [hsz7]; omega)).trans hsz7)
              clear hsz7 HM
              go_wp2_with fail
              go_ret
              exact ⟨ret_int Hf.out.symm, Hb3.out⟩
            · have hsb2 : decide ((4 : Int) < (an : Int)) = false := by simp; omega
              have hsc2 : decide (4 < an) = false := by simp; omega
              by_cases hs3 : 4 < nn
              · have hsb3 : decide ((4 : Int) < (nn : Int)) = true := by simp; omega
                have hsc3 : decide (4 < nn) = true := by simp; omega
                have hsz7 : sizesE m = 7 := by
                  unfold sizesE
                  rw [if_pos (.inr (.inr (.inr (.inl (by rw [LN.out]; exact hs3)))))]
                have Hf : Hid (modE m = 7) := hide ((first_not HM.out (by rw [hsz7]; omega)).trans hsz7)
                clear hsz7 HM
                go_wp2_with fail
                go_ret
                exact ⟨ret_int Hf.out.symm, Hb3.out⟩
              · have hsb3 : decide ((4 : Int) < (nn : Int)) = false := by simp; omega
                have hsc3 : decide (4 < nn) = false := by simp; omega
                by_cases hs4 : 6 < pn
                · have hsb4 : decide ((6 : Int) < (pn : Int)) = true := by simp; omega
                  have hsc4 : decide (6 < pn) = true := by simp; omega
                  have hsz7 : sizesE m = 7 := by
                    unfold sizesE
                    rw [if_pos (.inr (.inr (.inr (.inr (by rw [LP.out]; exact hs4)))))]
                  have Hf : Hid (modE m = 7) := hide ((first_not HM.out (by rw [hsz7]; omega)).trans hsz7)
                  clear hsz7 HM
                  go_wp2_with fail
                  go_ret
                  exact ⟨ret_int Hf.out.symm, Hb3.out⟩
                · have hsb4 : decide ((6 : Int) < (pn : Int)) = false := by simp; omega
                  have hsc4 : decide (6 < pn) = false := by simp; omega
                  have hsz0 : sizesE m = 0 := by
                    unfold sizesE
                    rw [if_neg (by rw [LE.out, LS.out, LA.out, LN.out, LP.out]; omega)]
                  have HM2 := hide (first_zero HM.out hsz0)
                  clear hsz0 HM
                  have HM := HM2
                  clear HM2
                  clear r1 r2 r3 r4 r5
                  have r1 : w3.cell? ⟨w.heap.size, 7, none⟩ = some (.slice eA en ec) := Hbx3.out 7 _ rfl
                  have r2 : w3.cell? ⟨w.heap.size, 8, none⟩ = some (.slice sA sn sc) := Hbx3.out 8 _ rfl
                  have r3 : w3.cell? ⟨w.heap.size, 9, none⟩ = some (.slice aA an ac) := Hbx3.out 9 _ rfl
                  have r4 : w3.cell? ⟨w.heap.size, 10, none⟩ = some (.slice nA nn nc) := Hbx3.out 10 _ rfl
                  have r5 : w3.cell? ⟨w.heap.size, 11, none⟩ = some (.slice pA pn pc) := Hbx3.out 11 _ rfl
                  have q1 : w3.cell? ⟨w.heap.size, 7, none⟩ = some (.slice eA en ec) := Hbx3.out 7 _ rfl
                  go_wp2_with fail
                  clear q1
                  go_loopw [70] (fun i wr => ∃ k : Nat, k ≤ en ∧ i = .int .i64 k ∧ Hid (cmdsE m.vars true (m.env.drop k) = cmdsE m.vars true m.env) ∧ Below w3.heap.size w3 wr) (fun i _ => en - (intOf i).toNat)
                  case atStart => exact ⟨0, by omega, rfl, hide rfl, Below.refl _ _⟩
                  case round =>
                    obtain ⟨k, hk, rfl, HT, hbw⟩ := hrel
                    have hzr := hbw.size
                    by_cases hlt : k < en
                    · have hlt' : ((k : Int) < (en : Int)) := by omega
                      obtain ⟨b, off, c, eA2, hbB, hku, ⟨⟨⟨go, gn, gA, gl, gc⟩, ⟨c0, c1, c2⟩, hex⟩, ⟨tA, tn, tc⟩, c3, hrs⟩⟩ := ((Hrm3.out.2.2.2.2.1).keep (w' := wr) (fun b o y h1 hy => CmdAt.keep h1 hy (fun p hp => (hbw.mono (by omega)).cell hp))).at_ (k := k) hlt
                      simp only [SL.v] at eA2 c0 c1 c2 c3
                      subst eA2
                      have HT2 : Hid ((if cmdE m.vars c true = 0 then cmdsE m.vars true (m.env.drop (k + 1)) else cmdE m.vars c true) = cmdsE m.vars true m.env) := hide (by rw [← HT.out, drop_at hku, cmdsE])
                      clear hku HT
                      have hbA := (Below.refl wr.heap.size wr).alloc (Nat.le_refl _) (.cells #[.int .i64 go, .int .i64 gn, .slice gA gl gc, .slice tA tn tc] 31)
                      have Hrc : Hid (RC (wr.alloc (.cells #[.int .i64 go, .int .i64 gn, .slice gA gl gc, .slice tA tn tc] 31)) B ⟨⟨go, gn, gA, gl, gc⟩, ⟨tA, tn, tc⟩⟩ c) := hide (RC.below (w := wr) ⟨hex, hrs⟩ (hbA.mono (by omega)))
                      have Hrv2 := hide ((Hrm3.out.2.1.below (hbw.mono (by omega))).below (hbA.mono (by omega)))
                      have HbA := hide (hbw.trans (hbA.mono hzr))
                      have hzA : wr.heap.size + 1 ≤ (wr.alloc (.cells #[.int .i64 go, .int .i64 gn, .slice gA gl gc, .slice tA tn tc] 31)).heap.size := by simp
                      obtain ⟨⟨f0, f1, f2⟩, f3⟩ := box4 wr go gn gA gl gc tA tn tc
                      clear hex hrs hbA hbw
                      go_wp2_with fail
                      clear c0 c1 c2 c3 f0 f1 f2 f3
                      generalize wr.alloc (.cells #[.int .i64 go, .int .i64 gn, .slice gA gl gc, .slice tA tn tc] 31) = W1 at *
                      refine (rcmd_any B vA vn vc m.vars ⟨⟨go, gn, gA, gl, gc⟩, ⟨tA, tn, tc⟩⟩ c true W1 Ho.out (by omega) Hrc.out Hrv2.out).mono ?_
                      rintro e wc ⟨rfl, hbc⟩
                      have Hbc := hide (HbA.out.trans (hbc.mono (by omega)))
                      clear hbc HbA Hrc Hrv2
                      by_cases hx : cmdE m.vars c true = 0
                      · have hxb : (cmdE m.vars c true != 0) = false := by simp [hx]
                        have HT3 : Hid (cmdsE m.vars true (m.env.drop (k + 1)) = cmdsE m.vars true m.env) := hide (by have h := HT2.out; rw [if_pos hx] at h; exact h)
                        clear hx HT2
                        go_wp2_with fail
                        go_roundw
                        case rel => exact ⟨k + 1, by omega, by go_num, HT3, Hbc.out⟩
                        case measure => simp [intOf]; omega
                      · have hxb : (cmdE m.vars c true != 0) = true := by simp [hx]
                        have Hf : Hid (modE m = cmdE m.vars c true) := hide (by
                          have h := HT2.out
                          rw [if_neg hx] at h
                          rw [first_not HM.out (by rw [← h]; exact hx), ← h])
                        have Hbf := hide (Hb3.out.trans (Hbc.out.mono (by have := Hb3.out.size; omega)))
                        clear hx HT2
                        go_wp2_with fail
                        go_ret
                        exact ⟨ret_int Hf.out.symm, Hbf.out⟩
                    · have hlt' : ¬ ((k : Int) < (en : Int)) := by omega
                      have hz0' : cmdsE m.vars true m.env = 0 := by rw [← HT.out, List.drop_of_length_le (by rw [LE.out]; omega), cmdsE]
                      have HM2 := hide (first_zero HM.out hz0')
                      clear hz0' HM HT
                      have HM := HM2
                      clear HM2
                      obtain ⟨w4, rfl⟩ : ∃ w4, w4 = wr := ⟨_, rfl⟩
                      have hbn := hbw
                      clear hbw
                      have Hb4 := hide (Hb3.out.trans (hbn.mono (by omega)))
                      have Hrm4 := hide (Hrm3.out.below (hbn.mono (by omega)))
                      have Hbx4 := hide (Hbx3.out.below hbn (by omega))
                      clear hbn Hb3 Hrm3 Hbx3
                      clear r1 r2 r3 r4 r5
                      have q1 : w4.cell? ⟨w.heap.size, 8, none⟩ = some (.slice sA sn sc) := Hbx4.out 8 _ rfl
                      go_wp2_with fail
                      clear q1
                      go_loopw [84] (fun i wr => ∃ k : Nat, k ≤ sn ∧ i = .int .i64 k ∧ Hid (cmdsE m.vars false (m.sys.drop k) = cmdsE m.vars false m.sys) ∧ Below w4.heap.size w4 wr) (fun i _ => sn - (intOf i).toNat)
                      case atStart => exact ⟨0, by omega, rfl, hide rfl, Below.refl _ _⟩
                      case round =>
                        obtain ⟨k, hk, rfl, HT, hbw⟩ := hrel
                        have hzr := hbw.size
                        by_cases hlt : k < sn
                        · have hlt' : ((k : Int) < (sn : Int)) := by omega
                          obtain ⟨b, off, c, eA2, hbB, hku, ⟨⟨⟨go, gn, gA, gl, gc⟩, ⟨c0, c1, c2⟩, hex⟩, ⟨tA, tn, tc⟩, c3, hrs⟩⟩ := ((Hrm4.out.2.2.2.2.2.1).keep (w' := wr) (fun b o y h1 hy => CmdAt.keep h1 hy (fun p hp => (hbw.mono (by omega)).cell hp))).at_ (k := k) hlt
                          simp only [SL.v] at eA2 c0 c1 c2 c3
                          subst eA2
                          have HT2 : Hid ((if cmdE m.vars c false = 0 then cmdsE m.vars false (m.sys.drop (k + 1)) else cmdE m.vars c false) = cmdsE m.vars false m.sys) := hide (by rw [← HT.out, drop_at hku, cmdsE])
                          clear hku HT
                          have hbA := (Below.refl wr.heap.size wr).alloc (Nat.le_refl _) (.cells #[.int .i64 go, .int .i64 gn, .slice gA gl gc, .slice tA tn tc] 31)
                          have Hrc : Hid (RC (wr.alloc (.cells #[.int .i64 go, .int .i64 gn, .slice gA gl gc, .slice tA tn tc] 31)) B ⟨⟨go, gn, gA, gl, gc⟩, ⟨tA, tn, tc⟩⟩ c) := hide (RC.below (w := wr) ⟨hex, hrs⟩ (hbA.mono (by omega)))
                          have Hrv2 := hide ((Hrm4.out.2.1.below (hbw.mono (by omega))).below (hbA.mono (by omega)))
                          have HbA := hide (hbw.trans (hbA.mono hzr))
                          have hzA : wr.heap.size + 1 ≤ (wr.alloc (.cells #[.int .i64 go, .int .i64 gn, .slice gA gl gc, .slice tA tn tc] 31)).heap.size := by simp
                          obtain ⟨⟨f0, f1, f2⟩, f3⟩ := box4 wr go gn gA gl gc tA tn tc
                          clear hex hrs hbA hbw
                          go_wp2_with fail
                          clear c0 c1 c2 c3 f0 f1 f2 f3
                          generalize wr.alloc (.cells #[.int .i64 go, .int .i64 gn, .slice gA gl gc, .slice tA tn tc] 31) = W1 at *
                          refine (rcmd_any B vA vn vc m.vars ⟨⟨go, gn, gA, gl, gc⟩, ⟨tA, tn, tc⟩⟩ c false W1 Ho.out (by omega) Hrc.out Hrv2.out).mono ?_
                          rintro e wc ⟨rfl, hbc⟩
                          have Hbc := hide (HbA.out.trans (hbc.mono (by omega)))
                          clear hbc HbA Hrc Hrv2
                          by_cases hx : cmdE m.vars c false = 0
                          · have hxb : (cmdE m.vars c false != 0) = false := by simp [hx]
                            have HT3 : Hid (cmdsE m.vars false (m.sys.drop (k + 1)) = cmdsE m.vars false m.sys) := hide (by have h := HT2.out; rw [if_pos hx] at h; exact h)
                            clear hx HT2
                            go_wp2_with fail
                            go_roundw
                            case rel => exact ⟨k + 1, by omega, by go_num, HT3, Hbc.out⟩
                            case measure => simp [intOf]; omega
                          · have hxb : (cmdE m.vars c false != 0) = true := by simp [hx]
                            have Hf : Hid (modE m = cmdE m.vars c false) := hide (by
                              have h := HT2.out
                              rw [if_neg hx] at h
                              rw [first_not HM.out (by rw [← h]; exact hx), ← h])
                            have Hbf := hide (Hb4.out.trans (Hbc.out.mono (by have := Hb4.out.size; omega)))
                            clear hx HT2
                            go_wp2_with fail
                            go_ret
                            exact ⟨ret_int Hf.out.symm, Hbf.out⟩
                        · have hlt' : ¬ ((k : Int) < (sn : Int)) := by omega
                          have hz0' : cmdsE m.vars false m.sys = 0 := by rw [← HT.out, List.drop_of_length_le (by rw [LS.out]; omega), cmdsE]
                          have HM2 := hide (first_zero HM.out hz0')
                          clear hz0' HM HT
                          have HM := HM2
                          clear HM2
                          obtain ⟨w5, rfl⟩ : ∃ w5, w5 = wr := ⟨_, rfl⟩
                          have hbn := hbw
                          clear hbw
                          have Hb5 := hide (Hb4.out.trans (hbn.mono (by omega)))
                          have Hrm5 := hide (Hrm4.out.below (hbn.mono (by omega)))
                          have Hbx5 := hide (Hbx4.out.below hbn (by omega))
                          clear hbn Hb4 Hrm4 Hbx4
                          have r3 : w5.cell? ⟨w.heap.size, 9, none⟩ = some (.slice aA an ac) := Hbx5.out 9 _ rfl
                          have r4 : w5.cell? ⟨w.heap.size, 10, none⟩ = some (.slice nA nn nc) := Hbx5.out 10 _ rfl
                          have r5 : w5.cell? ⟨w.heap.size, 11, none⟩ = some (.slice pA pn pc) := Hbx5.out 11 _ rfl
                          by_cases hboth : 0 < pn ∧ 0 < an + nn
                          · have hp1 : decide ((0 : Int) < (pn : Int)) = true := by simp; omega
                            have hp2 : decide (0 < pn) = true := by simp; omega
                            have hq1 : decide ((0 : Int) < (an : Int) + (nn : Int)) = true := by simp; omega
                            have hb1 : bothE m = 1 := by
                              unfold bothE
                              rw [if_pos (by rw [LP.out, LA.out, LN.out]; exact hboth)]
                            have Hf : Hid (modE m = 1) := hide ((first_not HM.out (by rw [hb1]; omega)).trans hb1)
                            clear hb1 HM
                            go_wp2_with fail
                            go_ret
                            exact ⟨ret_int Hf.out.symm, Hb5.out⟩
                          · have hb0 : bothE m = 0 := by
                              unfold bothE
                              rw [if_neg (by rw [LP.out, LA.out, LN.out]; exact hboth)]
                            have HM2 := hide (first_zero HM.out hb0)
                            clear hb0 HM
                            have hgo : decide (0 < pn) = false ∨ (decide (0 < pn) = true ∧ decide ((0 : Int) < (an : Int) + (nn : Int)) = false) := by
                              by_cases h : 0 < pn
                              · right; simp; omega
                              · left; simp; omega
                            rcases hgo with hp2 | ⟨hp2, hq1⟩
                            · have hp1 : decide ((0 : Int) < (pn : Int)) = false := by simp at hp2 ⊢; omega
                              go_wp2_with fail
                              clear r3 r4 r5
                              go_loopw [116] (fun i wr => ((i = .int .i64 0 ∧ Hid (modE m = firstE [goalsE m.vars m.asm, goalsE m.vars m.ens, goalsE m.vars m.prio])) ∨ (i = .int .i64 1 ∧ Hid (modE m = firstE [goalsE m.vars m.ens, goalsE m.vars m.prio])) ∨ (i = .int .i64 2 ∧ Hid (modE m = firstE [goalsE m.vars m.prio])) ∨ (i = .int .i64 3 ∧ Hid (modE m = firstE []))) ∧ Below w5.heap.size w5 wr) (fun i _ => 3 - (intOf i).toNat)
                              case atStart => exact ⟨.inl ⟨rfl, HM2⟩, Below.refl _ _⟩
                              case round =>
                                obtain ⟨hi, hbo⟩ := hrel
                                rcases hi with ⟨rfl, HMo⟩ | ⟨rfl, HMo⟩ | ⟨rfl, HMo⟩ | ⟨rfl, HMo⟩
                                · have hix : ∀ w : World, (Instr.index 51 (.agg #[.slice aA an ac, .slice nA nn nc, .slice pA pn pc]) (.int .i64 0)).run Try.prog w = .ok (.slice aA an ac) w := by
                                    intro w
                                    kernel_rfl
                                  obtain ⟨wo, rfl⟩ : ∃ wo, wo = wr := ⟨_, rfl⟩
                                  go_wp2_with fail
                                  clear hix
                                  go_loopw [121] (fun i wr => ∃ k : Nat, k ≤ an ∧ i = .int .i64 k ∧ Hid (goalsE m.vars (m.asm.drop k) = goalsE m.vars m.asm) ∧ Below w5.heap.size w5 wr) (fun i _ => an - (intOf i).toNat)
                                  case atStart => exact ⟨0, by omega, rfl, hide rfl, hbo⟩
                                  case round =>
                                    obtain ⟨k, hk, rfl, HT, hbw⟩ := hrel
                                    have hzr := hbw.size
                                    by_cases hlt : k < an
                                    · have hlt' : ((k : Int) < (an : Int)) := by omega
                                      obtain ⟨b, off, te, eA2, hbB, hku, ⟨⟨go, gn, gA, gl, gc⟩, ⟨c0, c1, c2⟩, ⟨dg, hex⟩⟩⟩ := ((Hrm5.out.2.2.2.2.2.2.1).keep (w' := wr) (fun b o y h1 hy => ExAt.keep h1 hy (fun p hp => (hbw.mono (by omega)).cell hp))).at_ (k := k) hlt
                                      simp only at eA2 c0 c1 c2 hex
                                      subst eA2
                                      have HT2 : Hid ((if needE m.vars te 1 true false false = 0 then goalsE m.vars (m.asm.drop (k + 1)) else needE m.vars te 1 true false false) = goalsE m.vars m.asm) := hide (by rw [← HT.out, drop_at hku, goalsE])
                                      clear hku HT
                                      have hbA := (Below.refl wr.heap.size wr).alloc (Nat.le_refl _) (.cells #[.int .i64 go, .int .i64 gn, .slice gA gl gc] 25)
                                      have Hex := hide (hex.below (hbA.mono (by omega)))
                                      have Hrv2 := hide ((Hrm5.out.2.1.below (hbw.mono (by omega))).below (hbA.mono (by omega)))
                                      have HbA := hide (hbw.trans (hbA.mono hzr))
                                      have hzA : wr.heap.size + 1 ≤ (wr.alloc (.cells #[.int .i64 go, .int .i64 gn, .slice gA gl gc] 25)).heap.size := by simp
                                      obtain ⟨f0, f1, f2⟩ := box_new wr go gn gA gl gc 25
                                      clear hex hbA hbw
                                      go_wp2_with fail
                                      clear c0 c1 c2 f0 f1 f2
                                      generalize wr.alloc (.cells #[.int .i64 go, .int .i64 gn, .slice gA gl gc] 25) = W1 at *
                                      refine (rneeds_any B vA vn vc m.vars dg go gn gA gl gc te 1 true false false W1 Ho.out.1 Ho.out.2.1 Ho.out.2.2.1 (by omega) Hex.out Hrv2.out Ho.out.2.2.2).mono ?_
                                      rintro e wc ⟨rfl, hbc⟩
                                      have Hbc := hide (HbA.out.trans (hbc.mono (by omega)))
                                      clear hbc HbA Hex Hrv2
                                      by_cases hx : needE m.vars te 1 true false false = 0
                                      · have hxb : (needE m.vars te 1 true false false != 0) = false := by simp [hx]
                                        have HT3 : Hid (goalsE m.vars (m.asm.drop (k + 1)) = goalsE m.vars m.asm) := hide (by have h := HT2.out; rw [if_pos hx] at h; exact h)
                                        clear hx HT2
                                        go_wp2_with fail
                                        go_roundw
                                        case rel => exact ⟨k + 1, by omega, by go_num, HT3, Hbc.out⟩
                                        case measure => simp [intOf]; omega
                                      · have hxb : (needE m.vars te 1 true false false != 0) = true := by simp [hx]
                                        have Hf : Hid (modE m = needE m.vars te 1 true false false) := hide (by
                                          have h := HT2.out
                                          rw [if_neg hx] at h
                                          rw [first_not HMo.out (by rw [← h]; exact hx), ← h])
                                        have Hbf := hide (Hb5.out.trans (Hbc.out.mono (by have := Hb5.out.size; omega)))
                                        clear hx HT2
                                        go_wp2_with fail
                                        go_ret
                                        exact ⟨ret_int Hf.out.symm, Hbf.out⟩
                                    · have hlt' : ¬ ((k : Int) < (an : Int)) := by omega
                                      have hz0' : goalsE m.vars m.asm = 0 := by rw [← HT.out, List.drop_of_length_le (by rw [LA.out]; omega), goalsE]
                                      have HN := hide (first_zero HMo.out hz0')
                                      clear hz0' HT
                                      go_wp2_with fail
                                      go_roundw
                                      case rel => exact ⟨.inr (.inl ⟨rfl, HN⟩), hbw⟩
                                      case measure => simp [intOf]
                                · have hix : ∀ w : World, (Instr.index 51 (.agg #[.slice aA an ac, .slice nA nn nc, .slice pA pn pc]) (.int .i64 1)).run Try.prog w = .ok (.slice nA nn nc) w := by
                                    intro w
                                    kernel_rfl
                                  obtain ⟨wo, rfl⟩ : ∃ wo, wo = wr := ⟨_, rfl⟩
                                  go_wp2_with fail
                                  clear hix
                                  go_loopw [121] (fun i wr => ∃ k : Nat, k ≤ nn ∧ i = .int .i64 k ∧ Hid (goalsE m.vars (m.ens.drop k) = goalsE m.vars m.ens) ∧ Below w5.heap.size w5 wr) (fun i _ => nn - (intOf i).toNat)
                                  case atStart => exact ⟨0, by omega, rfl, hide rfl, hbo⟩
                                  case round =>
                                    obtain ⟨k, hk, rfl, HT, hbw⟩ := hrel
                                    have hzr := hbw.size
                                    by_cases hlt : k < nn
                                    · have hlt' : ((k : Int) < (nn : Int)) := by omega
                                      obtain ⟨b, off, te, eA2, hbB, hku, ⟨⟨go, gn, gA, gl, gc⟩, ⟨c0, c1, c2⟩, ⟨dg, hex⟩⟩⟩ := ((Hrm5.out.2.2.2.2.2.2.2.1).keep (w' := wr) (fun b o y h1 hy => ExAt.keep h1 hy (fun p hp => (hbw.mono (by omega)).cell hp))).at_ (k := k) hlt
                                      simp only at eA2 c0 c1 c2 hex
                                      subst eA2
                                      have HT2 : Hid ((if needE m.vars te 1 true false false = 0 then goalsE m.vars (m.ens.drop (k + 1)) else needE m.vars te 1 true false false) = goalsE m.vars m.ens) := hide (by rw [← HT.out, drop_at hku, goalsE])
                                      clear hku HT
                                      have hbA := (Below.refl wr.heap.size wr).alloc (Nat.le_refl _) (.cells #[.int .i64 go, .int .i64 gn, .slice gA gl gc] 25)
                                      have Hex := hide (hex.below (hbA.mono (by omega)))
                                      have Hrv2 := hide ((Hrm5.out.2.1.below (hbw.mono (by omega))).below (hbA.mono (by omega)))
                                      have HbA := hide (hbw.trans (hbA.mono hzr))
                                      have hzA : wr.heap.size + 1 ≤ (wr.alloc (.cells #[.int .i64 go, .int .i64 gn, .slice gA gl gc] 25)).heap.size := by simp
                                      obtain ⟨f0, f1, f2⟩ := box_new wr go gn gA gl gc 25
                                      clear hex hbA hbw
                                      go_wp2_with fail
                                      clear c0 c1 c2 f0 f1 f2
                                      generalize wr.alloc (.cells #[.int .i64 go, .int .i64 gn, .slice gA gl gc] 25) = W1 at *
                                      refine (rneeds_any B vA vn vc m.vars dg go gn gA gl gc te 1 true false false W1 Ho.out.1 Ho.out.2.1 Ho.out.2.2.1 (by omega) Hex.out Hrv2.out Ho.out.2.2.2).mono ?_
                                      rintro e wc ⟨rfl, hbc⟩
                                      have Hbc := hide (HbA.out.trans (hbc.mono (by omega)))
                                      clear hbc HbA Hex Hrv2
                                      by_cases hx : needE m.vars te 1 true false false = 0
                                      · have hxb : (needE m.vars te 1 true false false != 0) = false := by simp [hx]
                                        have HT3 : Hid (goalsE m.vars (m.ens.drop (k + 1)) = goalsE m.vars m.ens) := hide (by have h := HT2.out; rw [if_pos hx] at h; exact h)
                                        clear hx HT2
                                        go_wp2_with fail
                                        go_roundw
                                        case rel => exact ⟨k + 1, by omega, by go_num, HT3, Hbc.out⟩
                                        case measure => simp [intOf]; omega
                                      · have hxb : (needE m.vars te 1 true false false != 0) = true := by simp [hx]
                                        have Hf : Hid (modE m = needE m.vars te 1 true false false) := hide (by
                                          have h := HT2.out
                                          rw [if_neg hx] at h
                                          rw [first_not HMo.out (by rw [← h]; exact hx), ← h])
                                        have Hbf := hide (Hb5.out.trans (Hbc.out.mono (by have := Hb5.out.size; omega)))
                                        clear hx HT2
                                        go_wp2_with fail
                                        go_ret
                                        exact ⟨ret_int Hf.out.symm, Hbf.out⟩
                                    · have hlt' : ¬ ((k : Int) < (nn : Int)) := by omega
                                      have hz0' : goalsE m.vars m.ens = 0 := by rw [← HT.out, List.drop_of_length_le (by rw [LN.out]; omega), goalsE]
                                      have HN := hide (first_zero HMo.out hz0')
                                      clear hz0' HT
                                      go_wp2_with fail
                                      go_roundw
                                      case rel => exact ⟨.inr (.inr (.inl ⟨rfl, HN⟩)), hbw⟩
                                      case measure => simp [intOf]
                                · have hix : ∀ w : World, (Instr.index 51 (.agg #[.slice aA an ac, .slice nA nn nc, .slice pA pn pc]) (.int .i64 2)).run Try.prog w = .ok (.slice pA pn pc) w := by
                                    intro w
                                    kernel_rfl
                                  obtain ⟨wo, rfl⟩ : ∃ wo, wo = wr := ⟨_, rfl⟩
                                  go_wp2_with fail
                                  clear hix
                                  go_loopw [121] (fun i wr => ∃ k : Nat, k ≤ pn ∧ i = .int .i64 k ∧ Hid (goalsE m.vars (m.prio.drop k) = goalsE m.vars m.prio) ∧ Below w5.heap.size w5 wr) (fun i _ => pn - (intOf i).toNat)
                                  case atStart => exact ⟨0, by omega, rfl, hide rfl, hbo⟩
                                  case round =>
                                    obtain ⟨k, hk, rfl, HT, hbw⟩ := hrel
                                    have hzr := hbw.size
                                    by_cases hlt : k < pn
                                    · have hlt' : ((k : Int) < (pn : Int)) := by omega
                                      obtain ⟨b, off, te, eA2, hbB, hku, ⟨⟨go, gn, gA, gl, gc⟩, ⟨c0, c1, c2⟩, ⟨dg, hex⟩⟩⟩ := ((Hrm5.out.2.2.2.2.2.2.2.2).keep (w' := wr) (fun b o y h1 hy => ExAt.keep h1 hy (fun p hp => (hbw.mono (by omega)).cell hp))).at_ (k := k) hlt
                                      simp only at eA2 c0 c1 c2 hex
                                      subst eA2
                                      have HT2 : Hid ((if needE m.vars te 1 true false false = 0 then goalsE m.vars (m.prio.drop (k + 1)) else needE m.vars te 1 true false false) = goalsE m.vars m.prio) := hide (by rw [← HT.out, drop_at hku, goalsE])
                                      clear hku HT
                                      have hbA := (Below.refl wr.heap.size wr).alloc (Nat.le_refl _) (.cells #[.int .i64 go, .int .i64 gn, .slice gA gl gc] 25)
                                      have Hex := hide (hex.below (hbA.mono (by omega)))
                                      have Hrv2 := hide ((Hrm5.out.2.1.below (hbw.mono (by omega))).below (hbA.mono (by omega)))
                                      have HbA := hide (hbw.trans (hbA.mono hzr))
                                      have hzA : wr.heap.size + 1 ≤ (wr.alloc (.cells #[.int .i64 go, .int .i64 gn, .slice gA gl gc] 25)).heap.size := by simp
                                      obtain ⟨f0, f1, f2⟩ := box_new wr go gn gA gl gc 25
                                      clear hex hbA hbw
                                      go_wp2_with fail
                                      clear c0 c1 c2 f0 f1 f2
                                      generalize wr.alloc (.cells #[.int .i64 go, .int .i64 gn, .slice gA gl gc] 25) = W1 at *
                                      refine (rneeds_any B vA vn vc m.vars dg go gn gA gl gc te 1 true false false W1 Ho.out.1 Ho.out.2.1 Ho.out.2.2.1 (by omega) Hex.out Hrv2.out Ho.out.2.2.2).mono ?_
                                      rintro e wc ⟨rfl, hbc⟩
                                      have Hbc := hide (HbA.out.trans (hbc.mono (by omega)))
                                      clear hbc HbA Hex Hrv2
                                      by_cases hx : needE m.vars te 1 true false false = 0
                                      · have hxb : (needE m.vars te 1 true false false != 0) = false := by simp [hx]
                                        have HT3 : Hid (goalsE m.vars (m.prio.drop (k + 1)) = goalsE m.vars m.prio) := hide (by have h := HT2.out; rw [if_pos hx] at h; exact h)
                                        clear hx HT2
                                        go_wp2_with fail
                                        go_roundw
                                        case rel => exact ⟨k + 1, by omega, by go_num, HT3, Hbc.out⟩
                                        case measure => simp [intOf]; omega
                                      · have hxb : (needE m.vars te 1 true false false != 0) = true := by simp [hx]
                                        have Hf : Hid (modE m = needE m.vars te 1 true false false) := hide (by
                                          have h := HT2.out
                                          rw [if_neg hx] at h
                                          rw [first_not HMo.out (by rw [← h]; exact hx), ← h])
                                        have Hbf := hide (Hb5.out.trans (Hbc.out.mono (by have := Hb5.out.size; omega)))
                                        clear hx HT2
                                        go_wp2_with fail
                                        go_ret
                                        exact ⟨ret_int Hf.out.symm, Hbf.out⟩
                                    · have hlt' : ¬ ((k : Int) < (pn : Int)) := by omega
                                      have hz0' : goalsE m.vars m.prio = 0 := by rw [← HT.out, List.drop_of_length_le (by rw [LP.out]; omega), goalsE]
                                      have HN := hide (first_zero HMo.out hz0')
                                      clear hz0' HT
                                      go_wp2_with fail
                                      go_roundw
                                      case rel => exact ⟨.inr (.inr (.inr ⟨rfl, HN⟩)), hbw⟩
                                      case measure => simp [intOf]
                                · have Hf : Hid (modE m = 0) := hide HMo.out
                                  have Hbf := hide (Hb5.out.trans (hbo.mono (by have := Hb5.out.size; omega)))
                                  go_wp2_with fail
                                  go_ret
                                  exact ⟨ret_int Hf.out.symm, Hbf.out⟩
                            · have hp1 : decide ((0 : Int) < (pn : Int)) = true := by simp at hp2 ⊢; omega
                              go_wp2_with fail
                              clear r3 r4 r5
                              go_loopw [116] (fun i wr => ((i = .int .i64 0 ∧ Hid (modE m = firstE [goalsE m.vars m.asm, goalsE m.vars m.ens, goalsE m.vars m.prio])) ∨ (i = .int .i64 1 ∧ Hid (modE m = firstE [goalsE m.vars m.ens, goalsE m.vars m.prio])) ∨ (i = .int .i64 2 ∧ Hid (modE m = firstE [goalsE m.vars m.prio])) ∨ (i = .int .i64 3 ∧ Hid (modE m = firstE []))) ∧ Below w5.heap.size w5 wr) (fun i _ => 3 - (intOf i).toNat)
                              case atStart => exact ⟨.inl ⟨rfl, HM2⟩, Below.refl _ _⟩
                              case round =>
                                obtain ⟨hi, hbo⟩ := hrel
                                rcases hi with ⟨rfl, HMo⟩ | ⟨rfl, HMo⟩ | ⟨rfl, HMo⟩ | ⟨rfl, HMo⟩
                                · have hix : ∀ w : World, (Instr.index 51 (.agg #[.slice aA an ac, .slice nA nn nc, .slice pA pn pc]) (.int .i64 0)).run Try.prog w = .ok (.slice aA an ac) w := by
                                    intro w
                                    kernel_rfl
                                  obtain ⟨wo, rfl⟩ : ∃ wo, wo = wr := ⟨_, rfl⟩
                                  go_wp2_with fail
                                  clear hix
                                  go_loopw [121] (fun i wr => ∃ k : Nat, k ≤ an ∧ i = .int .i64 k ∧ Hid (goalsE m.vars (m.asm.drop k) = goalsE m.vars m.asm) ∧ Below w5.heap.size w5 wr) (fun i _ => an - (intOf i).toNat)
                                  case atStart => exact ⟨0, by omega, rfl, hide rfl, hbo⟩
                                  case round =>
                                    obtain ⟨k, hk, rfl, HT, hbw⟩ := hrel
                                    have hzr := hbw.size
                                    by_cases hlt : k < an
                                    · have hlt' : ((k : Int) < (an : Int)) := by omega
                                      obtain ⟨b, off, te, eA2, hbB, hku, ⟨⟨go, gn, gA, gl, gc⟩, ⟨c0, c1, c2⟩, ⟨dg, hex⟩⟩⟩ := ((Hrm5.out.2.2.2.2.2.2.1).keep (w' := wr) (fun b o y h1 hy => ExAt.keep h1 hy (fun p hp => (hbw.mono (by omega)).cell hp))).at_ (k := k) hlt
                                      simp only at eA2 c0 c1 c2 hex
                                      subst eA2
                                      have HT2 : Hid ((if needE m.vars te 1 true false false = 0 then goalsE m.vars (m.asm.drop (k + 1)) else needE m.vars te 1 true false false) = goalsE m.vars m.asm) := hide (by rw [← HT.out, drop_at hku, goalsE])
                                      clear hku HT
                                      have hbA := (Below.refl wr.heap.size wr).alloc (Nat.le_refl _) (.cells #[.int .i64 go, .int .i64 gn, .slice gA gl gc] 25)
                                      have Hex := hide (hex.below (hbA.mono (by omega)))
                                      have Hrv2 := hide ((Hrm5.out.2.1.below (hbw.mono (by omega))).below (hbA.mono (by omega)))
                                      have HbA := hide (hbw.trans (hbA.mono hzr))
                                      have hzA : wr.heap.size + 1 ≤ (wr.alloc (.cells #[.int .i64 go, .int .i64 gn, .slice gA gl gc] 25)).heap.size := by simp
                                      obtain ⟨f0, f1, f2⟩ := box_new wr go gn gA gl gc 25
                                      clear hex hbA hbw
                                      go_wp2_with fail
                                      clear c0 c1 c2 f0 f1 f2
                                      generalize wr.alloc (.cells #[.int .i64 go, .int .i64 gn, .slice gA gl gc] 25) = W1 at *
                                      refine (rneeds_any B vA vn vc m.vars dg go gn gA gl gc te 1 true false false W1 Ho.out.1 Ho.out.2.1 Ho.out.2.2.1 (by omega) Hex.out Hrv2.out Ho.out.2.2.2).mono ?_
                                      rintro e wc ⟨rfl, hbc⟩
                                      have Hbc := hide (HbA.out.trans (hbc.mono (by omega)))
                                      clear hbc HbA Hex Hrv2
                                      by_cases hx : needE m.vars te 1 true false false = 0
                                      · have hxb : (needE m.vars te 1 true false false != 0) = false := by simp [hx]
                                        have HT3 : Hid (goalsE m.vars (m.asm.drop (k + 1)) = goalsE m.vars m.asm) := hide (by have h := HT2.out; rw [if_pos hx] at h; exact h)
                                        clear hx HT2
                                        go_wp2_with fail
                                        go_roundw
                                        case rel => exact ⟨k + 1, by omega, by go_num, HT3, Hbc.out⟩
                                        case measure => simp [intOf]; omega
                                      · have hxb : (needE m.vars te 1 true false false != 0) = true := by simp [hx]
                                        have Hf : Hid (modE m = needE m.vars te 1 true false false) := hide (by
                                          have h := HT2.out
                                          rw [if_neg hx] at h
                                          rw [first_not HMo.out (by rw [← h]; exact hx), ← h])
                                        have Hbf := hide (Hb5.out.trans (Hbc.out.mono (by have := Hb5.out.size; omega)))
                                        clear hx HT2
                                        go_wp2_with fail
                                        go_ret
                                        exact ⟨ret_int Hf.out.symm, Hbf.out⟩
                                    · have hlt' : ¬ ((k : Int) < (an : Int)) := by omega
                                      have hz0' : goalsE m.vars m.asm = 0 := by rw [← HT.out, List.drop_of_length_le (by rw [LA.out]; omega), goalsE]
                                      have HN := hide (first_zero HMo.out hz0')
                                      clear hz0' HT
                                      go_wp2_with fail
                                      go_roundw
                                      case rel => exact ⟨.inr (.inl ⟨rfl, HN⟩), hbw⟩
                                      case measure => simp [intOf]
                                · have hix : ∀ w : World, (Instr.index 51 (.agg #[.slice aA an ac, .slice nA nn nc, .slice pA pn pc]) (.int .i64 1)).run Try.prog w = .ok (.slice nA nn nc) w := by
                                    intro w
                                    kernel_rfl
                                  obtain ⟨wo, rfl⟩ : ∃ wo, wo = wr := ⟨_, rfl⟩
                                  go_wp2_with fail
                                  clear hix
                                  go_loopw [121] (fun i wr => ∃ k : Nat, k ≤ nn ∧ i = .int .i64 k ∧ Hid (goalsE m.vars (m.ens.drop k) = goalsE m.vars m.ens) ∧ Below w5.heap.size w5 wr) (fun i _ => nn - (intOf i).toNat)
                                  case atStart => exact ⟨0, by omega, rfl, hide rfl, hbo⟩
                                  case round =>
                                    obtain ⟨k, hk, rfl, HT, hbw⟩ := hrel
                                    have hzr := hbw.size
                                    by_cases hlt : k < nn
                                    · have hlt' : ((k : Int) < (nn : Int)) := by omega
                                      obtain ⟨b, off, te, eA2, hbB, hku, ⟨⟨go, gn, gA, gl, gc⟩, ⟨c0, c1, c2⟩, ⟨dg, hex⟩⟩⟩ := ((Hrm5.out.2.2.2.2.2.2.2.1).keep (w' := wr) (fun b o y h1 hy => ExAt.keep h1 hy (fun p hp => (hbw.mono (by omega)).cell hp))).at_ (k := k) hlt
                                      simp only at eA2 c0 c1 c2 hex
                                      subst eA2
                                      have HT2 : Hid ((if needE m.vars te 1 true false false = 0 then goalsE m.vars (m.ens.drop (k + 1)) else needE m.vars te 1 true false false) = goalsE m.vars m.ens) := hide (by rw [← HT.out, drop_at hku, goalsE])
                                      clear hku HT
                                      have hbA := (Below.refl wr.heap.size wr).alloc (Nat.le_refl _) (.cells #[.int .i64 go, .int .i64 gn, .slice gA gl gc] 25)
                                      have Hex := hide (hex.below (hbA.mono (by omega)))
                                      have Hrv2 := hide ((Hrm5.out.2.1.below (hbw.mono (by omega))).below (hbA.mono (by omega)))
                                      have HbA := hide (hbw.trans (hbA.mono hzr))
                                      have hzA : wr.heap.size + 1 ≤ (wr.alloc (.cells #[.int .i64 go, .int .i64 gn, .slice gA gl gc] 25)).heap.size := by simp
                                      obtain ⟨f0, f1, f2⟩ := box_new wr go gn gA gl gc 25
                                      clear hex hbA hbw
                                      go_wp2_with fail
                                      clear c0 c1 c2 f0 f1 f2
                                      generalize wr.alloc (.cells #[.int .i64 go, .int .i64 gn, .slice gA gl gc] 25) = W1 at *
                                      refine (rneeds_any B vA vn vc m.vars dg go gn gA gl gc te 1 true false false W1 Ho.out.1 Ho.out.2.1 Ho.out.2.2.1 (by omega) Hex.out Hrv2.out Ho.out.2.2.2).mono ?_
                                      rintro e wc ⟨rfl, hbc⟩
                                      have Hbc := hide (HbA.out.trans (hbc.mono (by omega)))
                                      clear hbc HbA Hex Hrv2
                                      by_cases hx : needE m.vars te 1 true false false = 0
                                      · have hxb : (needE m.vars te 1 true false false != 0) = false := by simp [hx]
                                        have HT3 : Hid (goalsE m.vars (m.ens.drop (k + 1)) = goalsE m.vars m.ens) := hide (by have h := HT2.out; rw [if_pos hx] at h; exact h)
                                        clear hx HT2
                                        go_wp2_with fail
                                        go_roundw
                                        case rel => exact ⟨k + 1, by omega, by go_num, HT3, Hbc.out⟩
                                        case measure => simp [intOf]; omega
                                      · have hxb : (needE m.vars te 1 true false false != 0) = true := by simp [hx]
                                        have Hf : Hid (modE m = needE m.vars te 1 true false false) := hide (by
                                          have h := HT2.out
                                          rw [if_neg hx] at h
                                          rw [first_not HMo.out (by rw [← h]; exact hx), ← h])
                                        have Hbf := hide (Hb5.out.trans (Hbc.out.mono (by have := Hb5.out.size; omega)))
                                        clear hx HT2
                                        go_wp2_with fail
                                        go_ret
                                        exact ⟨ret_int Hf.out.symm, Hbf.out⟩
                                    · have hlt' : ¬ ((k : Int) < (nn : Int)) := by omega
                                      have hz0' : goalsE m.vars m.ens = 0 := by rw [← HT.out, List.drop_of_length_le (by rw [LN.out]; omega), goalsE]
                                      have HN := hide (first_zero HMo.out hz0')
                                      clear hz0' HT
                                      go_wp2_with fail
                                      go_roundw
                                      case rel => exact ⟨.inr (.inr (.inl ⟨rfl, HN⟩)), hbw⟩
                                      case measure => simp [intOf]
                                · have hix : ∀ w : World, (Instr.index 51 (.agg #[.slice aA an ac, .slice nA nn nc, .slice pA pn pc]) (.int .i64 2)).run Try.prog w = .ok (.slice pA pn pc) w := by
                                    intro w
                                    kernel_rfl
                                  obtain ⟨wo, rfl⟩ : ∃ wo, wo = wr := ⟨_, rfl⟩
                                  go_wp2_with fail
                                  clear hix
                                  go_loopw [121] (fun i wr => ∃ k : Nat, k ≤ pn ∧ i = .int .i64 k ∧ Hid (goalsE m.vars (m.prio.drop k) = goalsE m.vars m.prio) ∧ Below w5.heap.size w5 wr) (fun i _ => pn - (intOf i).toNat)
                                  case atStart => exact ⟨0, by omega, rfl, hide rfl, hbo⟩
                                  case round =>
                                    obtain ⟨k, hk, rfl, HT, hbw⟩ := hrel
                                    have hzr := hbw.size
                                    by_cases hlt : k < pn
                                    · have hlt' : ((k : Int) < (pn : Int)) := by omega
                                      obtain ⟨b, off, te, eA2, hbB, hku, ⟨⟨go, gn, gA, gl, gc⟩, ⟨c0, c1, c2⟩, ⟨dg, hex⟩⟩⟩ := ((Hrm5.out.2.2.2.2.2.2.2.2).keep (w' := wr) (fun b o y h1 hy => ExAt.keep h1 hy (fun p hp => (hbw.mono (by omega)).cell hp))).at_ (k := k) hlt
                                      simp only at eA2 c0 c1 c2 hex
                                      subst eA2
                                      have HT2 : Hid ((if needE m.vars te 1 true false false = 0 then goalsE m.vars (m.prio.drop (k + 1)) else needE m.vars te 1 true false false) = goalsE m.vars m.prio) := hide (by rw [← HT.out, drop_at hku, goalsE])
                                      clear hku HT
                                      have hbA := (Below.refl wr.heap.size wr).alloc (Nat.le_refl _) (.cells #[.int .i64 go, .int .i64 gn, .slice gA gl gc] 25)
                                      have Hex := hide (hex.below (hbA.mono (by omega)))
                                      have Hrv2 := hide ((Hrm5.out.2.1.below (hbw.mono (by omega))).below (hbA.mono (by omega)))
                                      have HbA := hide (hbw.trans (hbA.mono hzr))
                                      have hzA : wr.heap.size + 1 ≤ (wr.alloc (.cells #[.int .i64 go, .int .i64 gn, .slice gA gl gc] 25)).heap.size := by simp
                                      obtain ⟨f0, f1, f2⟩ := box_new wr go gn gA gl gc 25
                                      clear hex hbA hbw
                                      go_wp2_with fail
                                      clear c0 c1 c2 f0 f1 f2
                                      generalize wr.alloc (.cells #[.int .i64 go, .int .i64 gn, .slice gA gl gc] 25) = W1 at *
                                      refine (rneeds_any B vA vn vc m.vars dg go gn gA gl gc te 1 true false false W1 Ho.out.1 Ho.out.2.1 Ho.out.2.2.1 (by omega) Hex.out Hrv2.out Ho.out.2.2.2).mono ?_
                                      rintro e wc ⟨rfl, hbc⟩
                                      have Hbc := hide (HbA.out.trans (hbc.mono (by omega)))
                                      clear hbc HbA Hex Hrv2
                                      by_cases hx : needE m.vars te 1 true false false = 0
                                      · have hxb : (needE m.vars te 1 true false false != 0) = false := by simp [hx]
                                        have HT3 : Hid (goalsE m.vars (m.prio.drop (k + 1)) = goalsE m.vars m.prio) := hide (by have h := HT2.out; rw [if_pos hx] at h; exact h)
                                        clear hx HT2
                                        go_wp2_with fail
                                        go_roundw
                                        case rel => exact ⟨k + 1, by omega, by go_num, HT3, Hbc.out⟩
                                        case measure => simp [intOf]; omega
                                      · have hxb : (needE m.vars te 1 true false false != 0) = true := by simp [hx]
                                        have Hf : Hid (modE m = needE m.vars te 1 true false false) := hide (by
                                          have h := HT2.out
                                          rw [if_neg hx] at h
                                          rw [first_not HMo.out (by rw [← h]; exact hx), ← h])
                                        have Hbf := hide (Hb5.out.trans (Hbc.out.mono (by have := Hb5.out.size; omega)))
                                        clear hx HT2
                                        go_wp2_with fail
                                        go_ret
                                        exact ⟨ret_int Hf.out.symm, Hbf.out⟩
                                    · have hlt' : ¬ ((k : Int) < (pn : Int)) := by omega
                                      have hz0' : goalsE m.vars m.prio = 0 := by rw [← HT.out, List.drop_of_length_le (by rw [LP.out]; omega), goalsE]
                                      have HN := hide (first_zero HMo.out hz0')
                                      clear hz0' HT
                                      go_wp2_with fail
                                      go_roundw
                                      case rel => exact ⟨.inr (.inr (.inr ⟨rfl, HN⟩)), hbw⟩
                                      case measure => simp [intOf]
                                · have Hf : Hid (modE m = 0) := hide HMo.out
                                  have Hbf := hide (Hb5.out.trans (hbo.mono (by have := Hb5.out.size; omega)))
                                  go_wp2_with fail
                                  go_ret
                                  exact ⟨ret_int Hf.out.symm, Hbf.out⟩
      · have hxb : (needE m.vars m.is 1 true false false != 0) = true := by simp [hx]
        have Hf := hide (first_not HM.out hx)
        clear hx HM
        go_wp2_with fail
        go_ret
        exact ⟨ret_int Hf.out.symm, Hb3.out⟩
    · have hxb : (needE m.vars m.ie 1 false false false != 0) = true := by simp [hx]
      have Hf := hide (first_not HM.out hx)
      clear hx HM
      go_wp2_with fail
      go_ret
      exact ⟨ret_int Hf.out.symm, Hb2.out⟩
  · have hxb : (Dom.mayL m.vars != 0) = true := by simp [hx]
    have Hf := hide (first_not HM.out hx)
    clear hx HM
    go_wp2_with fail
    go_ret
    exact ⟨ret_int Hf.out.symm, Hb1.out⟩
end Go.Proofs.Ytddbplgcglgloaa
