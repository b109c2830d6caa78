/- The walks of parrylaw6's Heavy and awake. -/
import Derived.Test.YtbppdalfcldodaaGreatCDev
import Derived.Test.YtbppdalfcldodaaGreatGSm
namespace Go.Proofs.YtbppdalfcldodaaGreat
open Go.RowKit Ex
set_option linter.unusedSimpArgs false
set_option linter.unusedVariables false

def hv6 (m : MT) : Int := if 0 < hvM m then hvM m else if 24 < Dom.totL m.vars then 1 else 0
set_option maxRecDepth 100000 in
set_option maxHeartbeats 1000000 in
theorem hv6_any (B : Nat) (x : M8) (m : MT) (w : World) (hB : B ≤ w.heap.size) (hrm : RM w B x m) :
    Calls Tryz.prog 8 #[.agg x.cells] w fun e w' => e = .returned (.int .i64 (hv6 m)) ∧ Below w.heap.size w w' := by
  have hbx := (Below.refl w.heap.size w).alloc (Nat.le_refl _) (.cells x.cells 28)
  have Hrm0 := hide (hrm.below (hbx.mono hB))
  have Hbx0 := hide (boxM_new w x)
  have Hb0 := hide hbx
  have hz0 : w.heap.size + 1 ≤ (w.alloc (.cells x.cells 28)).heap.size := by simp
  have Ho := hide hrm.1
  obtain ⟨⟨vA, vn, vc⟩, ⟨io, im, iA, il, ic⟩, ⟨jo, jm, jA, jl, jc⟩, ⟨eA, en, ec⟩, ⟨sA, sn, sc⟩, ⟨aA, an, ac⟩, ⟨nA, nn, nc⟩, ⟨pA, pn, pc⟩⟩ := x
  clear hrm hbx
  simp only [M8.cells, SL.v] at *
  obtain ⟨q0, q1, q2, q3, q4, q5, q6, q7, q8, q9, q10, q11⟩ := row12 Hbx0.out
  simp only at q0 q1 q2 q3 q4 q5 q6 q7 q8 q9 q10 q11
  have Hs : Hid (hv6 m = if 0 < hvM m then hvM m else if 24 < Dom.totL m.vars then 1 else 0) := hide rfl
  obtain ⟨h1a, h1b⟩ := hvM_bd m
  go_enter Tryz.func8, Tryz.ntmps8
  go_wp2_with fail
  clear q0 q1 q2 q3 q4 q5 q6 q7 q8 q9 q10 q11
  generalize w.alloc (.cells #[.slice vA vn vc, .int .i64 io, .int .i64 im, .slice iA il ic, .int .i64 jo, .int .i64 jm, .slice jA jl jc, .slice eA en ec, .slice sA sn sc, .slice aA an ac, .slice nA nn nc, .slice pA pn pc] 28) = w0 at *
  generalize hN : w.heap.size = N at *
  refine (hvx_any B ⟨⟨vA, vn, vc⟩, ⟨io, im, iA, il, ic⟩, ⟨jo, jm, jA, jl, jc⟩, ⟨eA, en, ec⟩, ⟨sA, sn, sc⟩, ⟨aA, an, ac⟩, ⟨nA, nn, nc⟩, ⟨pA, pn, pc⟩⟩ m w0 (by omega) Hrm0.out).mono ?_
  rintro e w1 ⟨rfl, hb1⟩
  have hz1 := hb1.size
  have Hb1 := hide (Hb0.out.trans (hb1.mono (by omega)))
  have Hrm1 := hide (Hrm0.out.below (hb1.mono (by omega)))
  have Hbx1 := hide (Hbx0.out.below hb1 (by omega))
  clear hb1 Hb0 Hrm0 Hbx0
  generalize hvM m = hv at *
  by_cases hh : 0 < hv
  · have hhb : decide (0 < hv) = true := by simp [hh]
    rw [if_pos hh] at Hs
    go_wp2_with fail
    go_ret
    exact ⟨ret_int Hs.out.symm, by first | exact Hb1.out | (rw [hN]; exact Hb1.out)⟩
  · have hhb : decide (0 < hv) = false := by simp; omega
    rw [if_neg hh] at Hs
    obtain ⟨q0, _⟩ := row12 Hbx1.out
    simp only at q0
    go_wp2_with fail
    clear q0
    refine (Dom.rtotal_any vA vn vc B m.vars w1 Ho.out.1 Ho.out.2.1 Ho.out.2.2.1 (by omega) Hrm1.out.2.1 Ho.out.2.2.2).mono ?_
    rintro e w2 ⟨rfl, hb2⟩
    have Hb2 := hide (Hb1.out.trans (hb2.mono (by omega)))
    clear hb2
    generalize Dom.totL m.vars = t at *
    by_cases ht : 24 < t
    · have htb : decide (24 < t) = true := by simp [ht]
      rw [if_pos ht] at Hs
      go_wp2_with fail
      go_ret
      exact ⟨ret_int Hs.out.symm, by first | exact Hb2.out | (rw [hN]; exact Hb2.out)⟩
    · have htb : decide (24 < t) = false := by simp; omega
      rw [if_neg ht] at Hs
      go_wp2_with fail
      go_ret
      exact ⟨ret_int Hs.out.symm, by first | exact Hb2.out | (rw [hN]; exact Hb2.out)⟩

end Go.Proofs.YtbppdalfcldodaaGreat
