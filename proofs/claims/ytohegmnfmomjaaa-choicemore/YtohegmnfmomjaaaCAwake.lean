/- The walks of parrylaw6's Heavy and awake. -/
import Derived.Test.YtohegmnfmomjaaaCDev
import Derived.Test.YtohegmnfmomjaaaGSm
namespace Go.Proofs.Ytohegmnfmomjaaa
open Go.RowKit Ex
set_option linter.unusedSimpArgs false
set_option linter.unusedVariables false

theorem small_envL : envL (smallM (.mk 2 1 [])) 0 = [0, 1] := by decide +kernel
theorem small_sysL : sysL (smallM (.mk 2 1 [])) 0 1 = [3] := by decide +kernel
theorem small_initE : (initEnvL (smallM (.mk 2 1 []))).length = 2 := by decide +kernel
theorem small_initS : (initSysL (smallM (.mk 2 1 [])) 0).length = 2 := by decide +kernel

def hv6 (m : MT) : Int := if 0 < hvM m then hvM m else if 24 < Dom.totL m.vars then 1 else 0
set_option maxRecDepth 100000 in
set_option maxHeartbeats 1000000 in
theorem hv6_any (B : Nat) (x : M8) (m : MT) (w : World) (hB : B ≤ w.heap.size) (hrm : RM w B x m) :
    Calls Try.prog 8 #[.agg x.cells] w fun e w' => e = .returned (.int .i64 (hv6 m)) ∧ Below w.heap.size w w' := by
  have hbx := (Below.refl w.heap.size w).alloc (Nat.le_refl _) (.cells x.cells 28)
  have Hrm0 := hide (hrm.below (hbx.mono hB))
  have Hbx0 := hide (boxM_new w x)
  have Hb0 := hide hbx
  have hz0 : w.heap.size + 1 ≤ (w.alloc (.cells x.cells 28)).heap.size := by simp
  have Ho := hide hrm.1
  obtain ⟨⟨vA, vn, vc⟩, ⟨io, im, iA, il, ic⟩, ⟨jo, jm, jA, jl, jc⟩, ⟨eA, en, ec⟩, ⟨sA, sn, sc⟩, ⟨aA, an, ac⟩, ⟨nA, nn, nc⟩, ⟨pA, pn, pc⟩⟩ := x
  clear hrm hbx
  simp only [M8.cells, SL.v] at *
  obtain ⟨q0, q1, q2, q3, q4, q5, q6, q7, q8, q9, q10, q11⟩ := row12 Hbx0.out
  simp only at q0 q1 q2 q3 q4 q5 q6 q7 q8 q9 q10 q11
  have Hs : Hid (hv6 m = if 0 < hvM m then hvM m else if 24 < Dom.totL m.vars then 1 else 0) := hide rfl
  obtain ⟨h1a, h1b⟩ := hvM_bd m
  go_enter Try.func8, Try.ntmps8
  go_wp2_with fail
  clear q0 q1 q2 q3 q4 q5 q6 q7 q8 q9 q10 q11
  generalize w.alloc (.cells #[.slice vA vn vc, .int .i64 io, .int .i64 im, .slice iA il ic, .int .i64 jo, .int .i64 jm, .slice jA jl jc, .slice eA en ec, .slice sA sn sc, .slice aA an ac, .slice nA nn nc, .slice pA pn pc] 28) = w0 at *
  generalize hN : w.heap.size = N at *
  refine (hvx_any B ⟨⟨vA, vn, vc⟩, ⟨io, im, iA, il, ic⟩, ⟨jo, jm, jA, jl, jc⟩, ⟨eA, en, ec⟩, ⟨sA, sn, sc⟩, ⟨aA, an, ac⟩, ⟨nA, nn, nc⟩, ⟨pA, pn, pc⟩⟩ m w0 (by omega) Hrm0.out).mono ?_
  rintro e w1 ⟨rfl, hb1⟩
  have hz1 := hb1.size
  have Hb1 := hide (Hb0.out.trans (hb1.mono (by omega)))
  have Hrm1 := hide (Hrm0.out.below (hb1.mono (by omega)))
  have Hbx1 := hide (Hbx0.out.below hb1 (by omega))
  clear hb1 Hb0 Hrm0 Hbx0
  generalize hvM m = hv at *
  by_cases hh : 0 < hv
  · have hhb : decide (0 < hv) = true := by simp [hh]
    rw [if_pos hh] at Hs
    go_wp2_with fail
    go_ret
    exact ⟨ret_int Hs.out.symm, by first | exact Hb1.out | (rw [hN]; exact Hb1.out)⟩
  · have hhb : decide (0 < hv) = false := by simp; omega
    rw [if_neg hh] at Hs
    obtain ⟨q0, _⟩ := row12 Hbx1.out
    simp only at q0
    go_wp2_with fail
    clear q0
    refine (Dom.rtotal_any vA vn vc B m.vars w1 Ho.out.1 Ho.out.2.1 Ho.out.2.2.1 (by omega) Hrm1.out.2.1 Ho.out.2.2.2).mono ?_
    rintro e w2 ⟨rfl, hb2⟩
    have Hb2 := hide (Hb1.out.trans (hb2.mono (by omega)))
    clear hb2
    generalize Dom.totL m.vars = t at *
    by_cases ht : 24 < t
    · have htb : decide (24 < t) = true := by simp [ht]
      rw [if_pos ht] at Hs
      go_wp2_with fail
      go_ret
      exact ⟨ret_int Hs.out.symm, by first | exact Hb2.out | (rw [hN]; exact Hb2.out)⟩
    · have htb : decide (24 < t) = false := by simp; omega
      rw [if_neg ht] at Hs
      go_wp2_with fail
      go_ret
      exact ⟨ret_int Hs.out.symm, by first | exact Hb2.out | (rw [hN]; exact Hb2.out)⟩

theorem ints_at {w : World} {base n c : Nat} {O : Option Addr} {xs : List Int} (h : w.ownsRow base 3 1 (.slice O n c) n (ints xs)) {k : Nat} {x : Int} (hx : xs[k]? = some x) : ∃ g, O = some ⟨g, 0, none⟩ ∧ g < w.heap.size ∧ w.cell? ⟨g, k, none⟩ = some (.int .i64 x) := by
  have hl : xs.length = n := by have := h.1; simpa [ints] using this
  have hk := (List.getElem?_eq_some_iff.1 hx).1
  obtain ⟨g, cap, hv, hb, hlt⟩ := h.form (by omega)
  have hA : O = some ⟨g, 0, none⟩ := by injection hv
  refine ⟨g, hA, hlt, ?_⟩
  subst hA
  have := h.cells (g := g) rfl k (.int .i64 x) (by simp [ints, hx])
  by_cases hj : k = 0
  · subst hj; simpa [Addr.add] using this
  · simpa [Addr.add, hj] using this
set_option maxRecDepth 100000 in
set_option maxHeartbeats 4000000 in
theorem awake_any (w : World) : Calls Try.prog 11 #[] w fun e w' => e = .returned (.bool true) ∧ Below w.heap.size w w' := by
  go_enter Try.func11, Try.ntmps11
  go_wp2_with fail
  refine (small_any w).mono ?_
  rintro e w1 ⟨rfl, hw1⟩
  have hb1 := small_below w
  have hz1 := small_size w
  have hk1 := small_blocks w
  rw [← hw1] at hb1 hz1 hk1
  clear hw1
  have Hb1 := hide hb1
  have hzz1 := hb1.size
  clear hb1
  generalize hN : w.heap.size = N at *
  go_wp2_with fail
  refine (denv_any (N + 10) (smallC N) _ 0 w1 (by omega) (small_rm hk1)).mono ?_
  rintro e w2 ⟨O2, n2, c2, rfl, how2, hl2, hb2⟩
  rw [small_envL] at how2 hl2
  have hl2' : n2 = 2 := by rw [← hl2]; rfl
  subst hl2'
  obtain ⟨ga, rfl, hga, ca⟩ := ints_at how2 (k := 1) (x := 1) rfl
  have hzz2 := hb2.size
  have Hb2 := hide (Hb1.out.trans (hb2.mono (by omega)))
  have Hca := hide ca
  clear how2 hl2 hb2 hk1 ca hz1
  go_wp2_with fail
  refine (small_any w2).mono ?_
  rintro e w3 ⟨rfl, hw3⟩
  have hb3 := small_below w2
  have hz3 := small_size w2
  have hk3 := small_blocks w2
  rw [← hw3] at hb3 hz3 hk3
  clear hw3
  have hzz3 := hb3.size
  have Hb3 := hide (Hb2.out.trans (hb3.mono (by omega)))
  have Hca3 := hide ((hb3.cell (p := ⟨ga, 1, none⟩) (by show ga < w2.heap.size; omega)).trans Hca.out)
  clear hb3 Hca
  generalize hN2 : w2.heap.size = N2 at *
  go_wp2_with fail
  refine (dsys_any (N2 + 10) (smallC N2) _ 0 1 w3 (by omega) (small_rm hk3)).mono ?_
  rintro e w4 ⟨O4, n4, c4, rfl, how4, hl4, hb4⟩
  rw [small_sysL] at how4 hl4
  have hl4' : n4 = 1 := by rw [← hl4]; rfl
  subst hl4'
  obtain ⟨gb, rfl, hgb, cb⟩ := ints_at how4 (k := 0) (x := 3) rfl
  have hzz4 := hb4.size
  have Hb4 := hide (Hb3.out.trans (hb4.mono (by omega)))
  have ca := (hb4.cell (p := ⟨ga, 1, none⟩) (by show ga < w3.heap.size; omega)).trans Hca3.out
  clear how4 hl4 hb4 hk3 hz3 Hca3
  go_wp2_with fail
  clear ca cb
  refine (small_any w4).mono ?_
  rintro e w5 ⟨rfl, hw5⟩
  have hb5 := small_below w4
  have hz5 := small_size w4
  have hk5 := small_blocks w4
  rw [← hw5] at hb5 hz5 hk5
  clear hw5
  have hzz5 := hb5.size
  have Hb5 := hide (Hb4.out.trans (hb5.mono (by omega)))
  clear hb5
  generalize hN4 : w4.heap.size = N4 at *
  go_wp2_with fail
  refine (dinitE_any (N4 + 10) (smallC N4) _ w5 (by omega) (small_rm hk5)).mono ?_
  rintro e w6 ⟨O6, n6, c6, rfl, how6, hl6, hb6⟩
  rw [small_initE] at hl6
  subst hl6
  have hzz6 := hb6.size
  have Hb6 := hide (Hb5.out.trans (hb6.mono (by omega)))
  clear how6 hb6 hk5 hz5
  go_wp2_with fail
  refine (small_any w6).mono ?_
  rintro e w7 ⟨rfl, hw7⟩
  have hb7 := small_below w6
  have hz7 := small_size w6
  have hk7 := small_blocks w6
  rw [← hw7] at hb7 hz7 hk7
  clear hw7
  have hzz7 := hb7.size
  have Hb7 := hide (Hb6.out.trans (hb7.mono (by omega)))
  clear hb7
  generalize hN6 : w6.heap.size = N6 at *
  go_wp2_with fail
  refine (dinitS_any (N6 + 10) (smallC N6) _ 0 w7 (by omega) (small_rm hk7)).mono ?_
  rintro e w8 ⟨O8, n8, c8, rfl, how8, hl8, hb8⟩
  rw [small_initS] at hl8
  subst hl8
  have Hb8 := hide (Hb7.out.trans (hb8.mono (by omega)))
  clear how8 hb8 hk7 hz7
  go_wp2_with fail
  go_ret
  exact ⟨rfl, by first | exact Hb8.out | (rw [hN]; exact Hb8.out)⟩
end Go.Proofs.Ytohegmnfmomjaaa
