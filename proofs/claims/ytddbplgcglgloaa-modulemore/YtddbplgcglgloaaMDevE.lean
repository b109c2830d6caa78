/- The walks of the program's Goals and May. -/
import Derived.Test.YtddbplgcglgloaaMDevD
namespace Go.Proofs.Ytddbplgcglgloaa
open Go.RowKit Ex
open Go.Sort (grow)
set_option linter.unusedSimpArgs false
set_option linter.unusedVariables false

set_option maxHeartbeats 1000000 in
theorem goals3_any (x : M8) (w : World) (h1 : x.asm.n ≤ 2 ^ 63 - 1) (h2 : x.ens.n ≤ 2 ^ 63 - 1) (h3 : x.prio.n ≤ 2 ^ 63 - 1) :
    Calls Try.prog 21 #[.agg x.cells] w fun e w' => e = .returned (.tuple #[.int .i64 (x.asm.n : Int), .int .i64 (x.ens.n : Int), .int .i64 (x.prio.n : Int)]) ∧ Below w.heap.size w w' := by
  have Hb0 := hide ((Below.refl w.heap.size w).alloc (Nat.le_refl _) (.cells x.cells 28))
  obtain ⟨_, _, _, _, _, _, _, _, _, r3, r4, r5⟩ := (boxM_new w x).all
  obtain ⟨⟨vA, vn, vc⟩, ⟨io, im, iA, il, ic⟩, ⟨jo, jm, jA, jl, jc⟩, ⟨eA, en, ec⟩, ⟨sA, sn, sc⟩, ⟨aA, an, ac⟩, ⟨nA, nn, nc⟩, ⟨pA, pn, pc⟩⟩ := x
  simp only [M8.cells, SL.v] at *
  go_enter Try.func21, Try.ntmps21
  go_wp2_with fail
  generalize w.alloc (.cells #[.slice vA vn vc, .int .i64 io, .int .i64 im, .slice iA il ic, .int .i64 jo, .int .i64 jm, .slice jA jl jc, .slice eA en ec, .slice sA sn sc, .slice aA an ac, .slice nA nn nc, .slice pA pn pc] 28) = V at *
  go_quiet (fail)
  go_wp2_with fail
  go_ret3
  exact ⟨rfl, below_drewN Hb0.out _⟩
theorem first_app : ∀ (a b : List Int), firstE (a ++ b) = if firstE a = 0 then firstE b else firstE a
  | [], b => by simp [firstE]
  | x :: r, b => by
    rw [List.cons_append, firstE, firstE]
    by_cases h : x = 0
    · rw [if_pos h, if_pos h, first_app r b]
    · rw [if_neg h, if_neg h, if_neg h]

set_option maxRecDepth 100000 in
set_option maxHeartbeats 4000000 in
theorem dmod_any (B : Nat) (x : M8) (m : MT) (w : World) (hB : B ≤ w.heap.size) (hrm : RM w B x m) :
    Calls Try.prog 8 #[.agg x.cells] w fun e w' => e = .returned (.int .i64 (modE m)) ∧ Below w.heap.size w w' := by
  have hbx := (Below.refl w.heap.size w).alloc (Nat.le_refl _) (.cells x.cells 28)
  have Hrm0 := hide (hrm.below (hbx.mono hB))
  have Hbx0 := hide (boxM_new w x)
  have Hb0 := hide hbx
  have hz0 : w.heap.size + 1 ≤ (w.alloc (.cells x.cells 28)).heap.size := by simp
  have Ho := hide hrm.1
  obtain ⟨⟨vA, vn, vc⟩, ⟨io, im, iA, il, ic⟩, ⟨jo, jm, jA, jl, jc⟩, ⟨eA, en, ec⟩, ⟨sA, sn, sc⟩, ⟨aA, an, ac⟩, ⟨nA, nn, nc⟩, ⟨pA, pn, pc⟩⟩ := x
  have xA : an ≤ 2 ^ 63 - 1 := Nat.le_trans hrm.2.2.2.2.2.2.1.2.1 hrm.2.2.2.2.2.2.1.2.2.1
  have xN : nn ≤ 2 ^ 63 - 1 := Nat.le_trans hrm.2.2.2.2.2.2.2.1.2.1 hrm.2.2.2.2.2.2.2.1.2.2.1
  have xP : pn ≤ 2 ^ 63 - 1 := Nat.le_trans hrm.2.2.2.2.2.2.2.2.2.1 hrm.2.2.2.2.2.2.2.2.2.2.1
  have LA := hide hrm.2.2.2.2.2.2.1.1
  have LN := hide hrm.2.2.2.2.2.2.2.1.1
  have LP := hide hrm.2.2.2.2.2.2.2.2.1
  have HM : Hid (modE m = firstE ([Dom.mayL m.vars] ++ ([needE m.vars m.ie 1 false false false, needE m.vars m.is 1 true false false] ++ ([sizesE m] ++ ([cmdsE m.vars true m.env, cmdsE m.vars false m.sys] ++ ([bothE m] ++ [goalsE m.vars m.asm, goalsE m.vars m.ens, goalsE m.vars m.prio])))))) := hide rfl
  clear hrm hbx
  simp only [M8.cells, SL.v] at *
  obtain ⟨q0, _⟩ := Hbx0.out.all
  simp only at q0
  go_enter Try.func8, Try.ntmps8
  go_wp2_with fail
  clear q0
  generalize hW : w.alloc (.cells #[.slice vA vn vc, .int .i64 io, .int .i64 im, .slice iA il ic, .int .i64 jo, .int .i64 jm, .slice jA jl jc, .slice eA en ec, .slice sA sn sc, .slice aA an ac, .slice nA nn nc, .slice pA pn pc] 28) = w0 at *
  clear hW
  refine (Dom.may_any vA vn vc B m.vars w0 Ho.out.1 (by omega) Hrm0.out.2.1 Ho.out.2.2.2).mono ?_
  rintro e w1 ⟨rfl, hb1⟩
  have hz1 := hb1.size
  have Hb1 := hide (Hb0.out.trans (hb1.mono (by omega)))
  have Hrm1 := hide (Hrm0.out.below (hb1.mono (by omega)))
  have Hbx1 := hide (Hbx0.out.below hb1 (by omega))
  clear hb1 Hb0 Hrm0 Hbx0
  rw [first_app] at HM
  have e1 : firstE [Dom.mayL m.vars] = Dom.mayL m.vars := by
    rw [firstE, firstE]; split
    · rename_i h; exact h.symm
    · rfl
  rw [e1] at HM
  clear e1
  generalize Dom.mayL m.vars = r1 at *
  by_cases h1 : r1 = 0
  · have h1b : (r1 != 0) = false := by simp [h1]
    rw [if_pos h1, first_app] at HM
    clear h1
    obtain ⟨q0, q1, q2, q3, q4, q5, q6, q7, q8, q9, q10, q11⟩ := Hbx1.out.all
    simp only at q0 q1 q2 q3 q4 q5 q6 q7 q8 q9 q10 q11
    go_wp2_with fail
    clear q0 q1 q2 q3 q4 q5 q6 q7 q8 q9 q10 q11
    refine (dinit_any B ⟨⟨vA, vn, vc⟩, ⟨io, im, iA, il, ic⟩, ⟨jo, jm, jA, jl, jc⟩, ⟨eA, en, ec⟩, ⟨sA, sn, sc⟩, ⟨aA, an, ac⟩, ⟨nA, nn, nc⟩, ⟨pA, pn, pc⟩⟩ m w1 (by omega) Hrm1.out).mono ?_
    rintro e w2 ⟨rfl, hb2⟩
    have hz2 := hb2.size
    have Hb2 := hide (Hb1.out.trans (hb2.mono (by omega)))
    have Hrm2 := hide (Hrm1.out.below (hb2.mono (by omega)))
    have Hbx2 := hide (Hbx1.out.below hb2 (by omega))
    clear hb2 Hb1 Hrm1 Hbx1
    generalize firstE [needE m.vars m.ie 1 false false false, needE m.vars m.is 1 true false false] = r2 at *
    by_cases h2 : r2 = 0
    · have h2b : (r2 != 0) = false := by simp [h2]
      rw [if_pos h2, first_app] at HM
      clear h2
      obtain ⟨q0, q1, q2, q3, q4, q5, q6, q7, q8, q9, q10, q11⟩ := Hbx2.out.all
      simp only at q0 q1 q2 q3 q4 q5 q6 q7 q8 q9 q10 q11
      go_wp2_with fail
      clear q0 q1 q2 q3 q4 q5 q6 q7 q8 q9 q10 q11
      refine (droom_any B ⟨⟨vA, vn, vc⟩, ⟨io, im, iA, il, ic⟩, ⟨jo, jm, jA, jl, jc⟩, ⟨eA, en, ec⟩, ⟨sA, sn, sc⟩, ⟨aA, an, ac⟩, ⟨nA, nn, nc⟩, ⟨pA, pn, pc⟩⟩ m w2 (by omega) Hrm2.out).mono ?_
      rintro e w3 ⟨rfl, hb3⟩
      have hz3 := hb3.size
      have Hb3 := hide (Hb2.out.trans (hb3.mono (by omega)))
      have Hrm3 := hide (Hrm2.out.below (hb3.mono (by omega)))
      have Hbx3 := hide (Hbx2.out.below hb3 (by omega))
      clear hb3 Hb2 Hrm2 Hbx2
      by_cases h3 : sizesE m = 0
      · have h3b : decide (sizesE m = 0) = true := by simp [h3]
        rw [if_pos (by rw [firstE, firstE, if_pos h3]), first_app] at HM
        rw [h3b]
        have y1 : an ≤ 4 ∧ nn ≤ 4 := by
          have a : m.asm.length = an := LA.out
          have b : m.ens.length = nn := LN.out
          unfold sizesE at h3
          rw [a, b] at h3
          by_cases h : 12 < m.env.length ∨ 12 < m.sys.length ∨ 4 < an ∨ 4 < nn ∨ 6 < m.prio.length
          · rw [if_pos h] at h3; omega
          · omega
        obtain ⟨y1, y2⟩ := y1
        clear h3 h3b
        obtain ⟨q0, q1, q2, q3, q4, q5, q6, q7, q8, q9, q10, q11⟩ := Hbx3.out.all
        simp only at q0 q1 q2 q3 q4 q5 q6 q7 q8 q9 q10 q11
        go_wp2_with fail
        clear q0 q1 q2 q3 q4 q5 q6 q7 q8 q9 q10 q11
        refine (dcmds_any B ⟨⟨vA, vn, vc⟩, ⟨io, im, iA, il, ic⟩, ⟨jo, jm, jA, jl, jc⟩, ⟨eA, en, ec⟩, ⟨sA, sn, sc⟩, ⟨aA, an, ac⟩, ⟨nA, nn, nc⟩, ⟨pA, pn, pc⟩⟩ m w3 (by omega) Hrm3.out).mono ?_
        rintro e w4 ⟨rfl, hb4⟩
        have hz4 := hb4.size
        have Hb4 := hide (Hb3.out.trans (hb4.mono (by omega)))
        have Hrm4 := hide (Hrm3.out.below (hb4.mono (by omega)))
        have Hbx4 := hide (Hbx3.out.below hb4 (by omega))
        clear hb4 Hb3 Hrm3 Hbx3
        generalize firstE [cmdsE m.vars true m.env, cmdsE m.vars false m.sys] = r4 at *
        by_cases h4 : r4 = 0
        · have h4b : (r4 != 0) = false := by simp [h4]
          rw [if_pos h4, first_app] at HM
          clear h4
          obtain ⟨q0, q1, q2, q3, q4, q5, q6, q7, q8, q9, q10, q11⟩ := Hbx4.out.all
          simp only at q0 q1 q2 q3 q4 q5 q6 q7 q8 q9 q10 q11
          go_wp2_with fail
          clear q0 q1 q2 q3 q4 q5 q6 q7 q8 q9 q10 q11
          refine (goals3_any ⟨⟨vA, vn, vc⟩, ⟨io, im, iA, il, ic⟩, ⟨jo, jm, jA, jl, jc⟩, ⟨eA, en, ec⟩, ⟨sA, sn, sc⟩, ⟨aA, an, ac⟩, ⟨nA, nn, nc⟩, ⟨pA, pn, pc⟩⟩ w4 xA xN xP).mono ?_
          rintro e w5 ⟨rfl, hb5⟩
          have hz5 := hb5.size
          have Hb5 := hide (Hb4.out.trans (hb5.mono (by omega)))
          have Hrm5 := hide (Hrm4.out.below (hb5.mono (by omega)))
          have Hbx5 := hide (Hbx4.out.below hb5 (by omega))
          clear hb5 Hb4 Hrm4 Hbx4
          simp only
          have e6 : firstE [bothE m] = bothE m := by
            rw [firstE, firstE]; split
            · rename_i h; exact h.symm
            · rfl
          rw [e6] at HM
          clear e6
          have HB : Hid (bothE m = if 0 < pn ∧ 0 < an + nn then 1 else 0) := hide (by
            have a : m.asm.length = an := LA.out
            have b : m.ens.length = nn := LN.out
            have c : m.prio.length = pn := LP.out
            unfold bothE
            rw [a, b, c])
          by_cases h5 : 0 < pn
          · have h5a : decide ((0 : Int) < (pn : Int)) = true := by simp; omega
            have h5b : decide (0 < pn) = true := by simp; omega
            by_cases h6 : 0 < an + nn
            · have h6a : decide ((0 : Int) < (an : Int) + (nn : Int)) = true := by simp; omega
              have Hf : Hid (modE m = 1) := hide (by
                have hb : bothE m = 1 := by rw [HB.out, if_pos ⟨h5, h6⟩]
                rw [HM.out, hb]; simp)
              go_wp2_with fail
              go_ret
              exact ⟨ret_int Hf.out.symm, Hb5.out⟩
            · have h6a : decide ((0 : Int) < (an : Int) + (nn : Int)) = false := by simp; omega
              have hb0 : bothE m = 0 := by rw [HB.out, if_neg (fun h => h6 h.2)]
              rw [hb0, if_pos rfl] at HM
              clear hb0
              clear HB
              obtain ⟨q0, q1, q2, q3, q4, q5, q6, q7, q8, q9, q10, q11⟩ := Hbx5.out.all
              simp only at q0 q1 q2 q3 q4 q5 q6 q7 q8 q9 q10 q11
              go_wp2_with fail
              clear q0 q1 q2 q3 q4 q5 q6 q7 q8 q9 q10 q11
              refine (dgoals_any B ⟨⟨vA, vn, vc⟩, ⟨io, im, iA, il, ic⟩, ⟨jo, jm, jA, jl, jc⟩, ⟨eA, en, ec⟩, ⟨sA, sn, sc⟩, ⟨aA, an, ac⟩, ⟨nA, nn, nc⟩, ⟨pA, pn, pc⟩⟩ m w5 (by omega) Hrm5.out).mono ?_
              rintro e w6 ⟨rfl, hb6⟩
              have hz6 := hb6.size
              have Hb6 := hide (Hb5.out.trans (hb6.mono (by omega)))
              have Hrm6 := hide (Hrm5.out.below (hb6.mono (by omega)))
              have Hbx6 := hide (Hbx5.out.below hb6 (by omega))
              clear hb6 Hb5 Hrm5 Hbx5
              go_wp2_with fail
              go_ret
              exact ⟨ret_int HM.out.symm, Hb6.out⟩
          · have h5a : decide ((0 : Int) < (pn : Int)) = false := by simp; omega
            have h5b : decide (0 < pn) = false := by simp; omega
            have hb0 : bothE m = 0 := by rw [HB.out, if_neg (fun h => h5 h.1)]
            rw [hb0, if_pos rfl] at HM
            clear hb0
            clear HB
            obtain ⟨q0, q1, q2, q3, q4, q5, q6, q7, q8, q9, q10, q11⟩ := Hbx5.out.all
            simp only at q0 q1 q2 q3 q4 q5 q6 q7 q8 q9 q10 q11
            go_wp2_with fail
            clear q0 q1 q2 q3 q4 q5 q6 q7 q8 q9 q10 q11
            refine (dgoals_any B ⟨⟨vA, vn, vc⟩, ⟨io, im, iA, il, ic⟩, ⟨jo, jm, jA, jl, jc⟩, ⟨eA, en, ec⟩, ⟨sA, sn, sc⟩, ⟨aA, an, ac⟩, ⟨nA, nn, nc⟩, ⟨pA, pn, pc⟩⟩ m w5 (by omega) Hrm5.out).mono ?_
            rintro e w6 ⟨rfl, hb6⟩
            have hz6 := hb6.size
            have Hb6 := hide (Hb5.out.trans (hb6.mono (by omega)))
            have Hrm6 := hide (Hrm5.out.below (hb6.mono (by omega)))
            have Hbx6 := hide (Hbx5.out.below hb6 (by omega))
            clear hb6 Hb5 Hrm5 Hbx5
            go_wp2_with fail
            go_ret
            exact ⟨ret_int HM.out.symm, Hb6.out⟩
        · have h4b : (r4 != 0) = true := by simp [h4]
          rw [if_neg h4] at HM
          clear h4
          go_wp2_with fail
          go_ret
          exact ⟨ret_int HM.out.symm, Hb4.out⟩
      · have h3b : decide (sizesE m = 0) = false := by simp [h3]
        have h37 : sizesE m = 7 := by
          revert h3
          unfold sizesE
          split
          · intro _; rfl
          · intro h; exact absurd rfl h
        have Hf : Hid (modE m = 7) := hide (by
          have h : firstE [sizesE m] = 7 := by rw [h37]; rfl
          rw [HM.out, h]; simp)
        rw [h3b]
        clear h3 h37 h3b
        go_wp2_with fail
        go_ret
        exact ⟨ret_int Hf.out.symm, Hb3.out⟩
    · have h2b : (r2 != 0) = true := by simp [h2]
      rw [if_neg h2] at HM
      clear h2
      go_wp2_with fail
      go_ret
      exact ⟨ret_int HM.out.symm, Hb2.out⟩
  · have h1b : (r1 != 0) = true := by simp [h1]
    rw [if_neg h1] at HM
    clear h1
    go_wp2_with fail
    go_ret
    exact ⟨ret_int HM.out.symm, Hb1.out⟩
end Go.Proofs.Ytddbplgcglgloaa
