/- The program's choice: Env, Sys, InitEnv, InitSys. -/
import Derived.Test.YtbppdalfcldodaaGreatCLeadB
import Derived.Test.YtbppdalfcldodaaGreatGDev
import Derived.Deep.RegionHeld3
set_option maxRecDepth 100000
namespace Go.Proofs.YtbppdalfcldodaaGreat
open Go.RowKit Ex
open Go.Sort (grow)
set_option linter.unusedSimpArgs false
set_option linter.unusedVariables false

theorem mod_vars {m : MT} (hm : modE m = 0) : Dom.mayL m.vars = 0 := ((modE_iff _).1 hm).1
theorem mod_env {m : MT} (hm : modE m = 0) : (∀ c ∈ m.env, Apart m.vars c.sets ∧ c.sets.length ≤ 6) ∧ m.env.length ≤ 12 := ⟨fun c hc => apart_cmd ((cmdsE_iff m.vars true m.env).1 ((modE_iff _).1 hm).2.2.2.2.1 c hc), (sizesE_zero ((modE_iff _).1 hm).2.2.2.1).1⟩
theorem mod_sys {m : MT} (hm : modE m = 0) : (∀ c ∈ m.sys, Apart m.vars c.sets ∧ c.sets.length ≤ 6) ∧ m.sys.length ≤ 12 := ⟨fun c hc => apart_cmd ((cmdsE_iff m.vars false m.sys).1 ((modE_iff _).1 hm).2.2.2.2.2.1 c hc), (sizesE_zero ((modE_iff _).1 hm).2.2.2.1).2.1⟩

set_option maxHeartbeats 2000000 in
theorem denv_any (B : Nat) (x : M8) (m : MT) (st : Int) (w : World) (hB : B ≤ w.heap.size) (hrm : RM w B x m) : Calls Tryz.prog 29 #[.agg x.cells, .int .i64 st] w (IntsPost w (envL m st)) := by
  have hbx := (Below.refl w.heap.size w).alloc (Nat.le_refl _) (.cells x.cells 28)
  have Hrm0 := hide (hrm.below (hbx.mono hB))
  have Hbx0 := hide (boxM_new w x)
  have Hb0 := hide hbx
  have hz0 : w.heap.size + 1 ≤ (w.alloc (.cells x.cells 28)).heap.size := by simp
  have Ho := hide hrm.1
  obtain ⟨⟨vA, vn, vc⟩, ⟨io, im, iA, il, ic⟩, ⟨jo, jm, jA, jl, jc⟩, ⟨eA, en, ec⟩, ⟨sA, sn, sc⟩, ⟨aA, an, ac⟩, ⟨nA, nn, nc⟩, ⟨pA, pn, pc⟩⟩ := x
  clear hrm hbx
  simp only [M8.cells, SL.v] at *
  obtain ⟨q0, q1, q2, q3, q4, q5, q6, q7, q8, q9, q10, q11⟩ := row12 Hbx0.out
  simp only at q0 q1 q2 q3 q4 q5 q6 q7 q8 q9 q10 q11
  go_enter Tryz.func29, Tryz.ntmps29
  go_wp2_with fail
  clear q0 q1 q2 q3 q4 q5 q6 q7 q8 q9 q10 q11
  generalize w.alloc (.cells #[.slice vA vn vc, .int .i64 io, .int .i64 im, .slice iA il ic, .int .i64 jo, .int .i64 jm, .slice jA jl jc, .slice eA en ec, .slice sA sn sc, .slice aA an ac, .slice nA nn nc, .slice pA pn pc] 28) = w0 at *
  generalize hN : w.heap.size = N at *
  refine (dmod_any B ⟨⟨vA, vn, vc⟩, ⟨io, im, iA, il, ic⟩, ⟨jo, jm, jA, jl, jc⟩, ⟨eA, en, ec⟩, ⟨sA, sn, sc⟩, ⟨aA, an, ac⟩, ⟨nA, nn, nc⟩, ⟨pA, pn, pc⟩⟩ m w0 (by omega) Hrm0.out).mono ?_
  rintro e w1 ⟨rfl, hb1⟩
  have hz1 := hb1.size
  have Hb1 := hide (Hb0.out.trans (hb1.mono (by omega)))
  have Hrm1 := hide (Hrm0.out.below (hb1.mono (by omega)))
  have Hbx1 := hide (Hbx0.out.below hb1 (by omega))
  clear hb1 Hb0 Hrm0 Hbx0
  by_cases hc : modE m = 0
  · have hcb : (modE m != 0) = false := by simp [hc]
    obtain ⟨q0, q1, q2, q3, q4, q5, q6, q7, q8, q9, q10, q11⟩ := row12 Hbx1.out
    simp only at q0 q1 q2 q3 q4 q5 q6 q7 q8 q9 q10 q11
    go_wp2_with fail
    clear q0 q1 q2 q3 q4 q5 q6 q7 q8 q9 q10 q11
    refine (state_any6 B vA vn vc m.vars st w1 Ho.out (by omega) Hrm1.out.2.1).mono ?_
    rintro e w2 ⟨rfl, hb2⟩
    have hz2 := hb2.size
    have Hb2 := hide (Hb1.out.trans (hb2.mono (by omega)))
    have Hrm2 := hide (Hrm1.out.below (hb2.mono (by omega)))
    have Hbx2 := hide (Hbx1.out.below hb2 (by omega))
    clear hb2 Hb1 Hrm1 Hbx1
    by_cases hs : stB m.vars st = true
    · rw [hs]
      obtain ⟨s0, s1⟩ := stB_iff.1 hs
      obtain ⟨q0, q1, q2, q3, q4, q5, q6, q7, q8, q9, q10, q11⟩ := row12 Hbx2.out
      simp only at q0 q1 q2 q3 q4 q5 q6 q7 q8 q9 q10 q11
      go_wp2_with fail
      clear q0 q1 q2 q3 q4 q5 q6 q7 q8 q9 q10 q11
      refine (Dom.part_any vA vn vc B m.vars st true w2 Ho.out.1 (by omega) Hrm2.out.2.1 Ho.out.2.2.2).mono ?_
      rintro e w3 ⟨rfl, hb3⟩
      have hz3 := hb3.size
      have Hb3 := hide (Hb2.out.trans (hb3.mono (by omega)))
      have Hrm3 := hide (Hrm2.out.below (hb3.mono (by omega)))
      have Hbx3 := hide (Hbx2.out.below hb3 (by omega))
      clear hb3 Hb2 Hrm2 Hbx2
      obtain ⟨t, ht, ht512⟩ : ∃ t : Nat, Dom.totL m.vars = (t : Int) ∧ t ≤ 512 := ⟨totN m, by unfold totN; have := (Dom.totL_bd m.vars).1; omega, by unfold totN; have := (Dom.totL_bd m.vars).2; omega⟩
      have htn : totN m = t := by unfold totN; rw [ht]; rfl
      obtain ⟨b0, b1⟩ := part_rng true (mod_vars hc) s0 s1
      have hen : en ≤ 12 := by have h1 := (mod_env hc).2; have h2 := Hrm3.out.2.2.2.2.1.1; simp only at h2; omega
      obtain ⟨q0, q1, q2, q3, q4, q5, q6, q7, q8, q9, q10, q11⟩ := row12 Hbx3.out
      simp only at q0 q1 q2 q3 q4 q5 q6 q7 q8 q9 q10 q11
      go_wp2_with fail
      clear q0 q1 q2 q3 q4 q5 q6 q7 q8 q9 q10 q11
      refine (choices_any B vA vn vc m.vars st st (Dom.partL m.vars st true) eA en ec m.env w3 Ho.out (by omega) Hrm3.out.2.1 Hrm3.out.2.2.2.2.1 (mod_vars hc) b0 b1 (mod_env hc).1 hen t ht ht512).mono ?_
      intro e w4 hp
      obtain ⟨O4, n4, c4, rfl, p2, p3, p4⟩ := hp
      have Hp := hide (ints_up (w := w) (by exact ⟨O4, n4, c4, rfl, p2, p3, p4⟩) (by rw [hN]; exact Hb3.out))
      clear p2 p3 p4
      go_wp2_with fail
      go_ret
      rw [← env_chosen hc s0 s1, htn]
      exact Hp.out
    · have hsb : stB m.vars st = false := by simpa using hs
      rw [hsb]
      have Hf : Hid (envL m st = []) := hide (by unfold envL; rw [if_neg (fun h => hs (stB_iff.2 h.2))])
      go_wp2_with fail
      go_ret
      rw [Hf.out, ← hN] at *
      exact ints_none Hb2.out
  · have hcb : (modE m != 0) = true := by simp [hc]
    have Hf : Hid (envL m st = []) := hide (by unfold envL; rw [if_neg (by intro h; first | exact hc h | exact hc h.1)])
    clear hc
    go_wp2_with fail
    go_ret
    rw [Hf.out, ← hN] at *
    exact ints_none Hb1.out

set_option maxHeartbeats 2000000 in
theorem dsys_any (B : Nat) (x : M8) (m : MT) (st p : Int) (w : World) (hB : B ≤ w.heap.size) (hrm : RM w B x m) : Calls Tryz.prog 30 #[.agg x.cells, .int .i64 st, .int .i64 p] w (IntsPost w (sysL m st p)) := by
  have hbx := (Below.refl w.heap.size w).alloc (Nat.le_refl _) (.cells x.cells 28)
  have Hrm0 := hide (hrm.below (hbx.mono hB))
  have Hbx0 := hide (boxM_new w x)
  have Hb0 := hide hbx
  have hz0 : w.heap.size + 1 ≤ (w.alloc (.cells x.cells 28)).heap.size := by simp
  have Ho := hide hrm.1
  obtain ⟨⟨vA, vn, vc⟩, ⟨io, im, iA, il, ic⟩, ⟨jo, jm, jA, jl, jc⟩, ⟨eA, en, ec⟩, ⟨sA, sn, sc⟩, ⟨aA, an, ac⟩, ⟨nA, nn, nc⟩, ⟨pA, pn, pc⟩⟩ := x
  clear hrm hbx
  simp only [M8.cells, SL.v] at *
  obtain ⟨q0, q1, q2, q3, q4, q5, q6, q7, q8, q9, q10, q11⟩ := row12 Hbx0.out
  simp only at q0 q1 q2 q3 q4 q5 q6 q7 q8 q9 q10 q11
  go_enter Tryz.func30, Tryz.ntmps30
  go_wp2_with fail
  clear q0 q1 q2 q3 q4 q5 q6 q7 q8 q9 q10 q11
  generalize w.alloc (.cells #[.slice vA vn vc, .int .i64 io, .int .i64 im, .slice iA il ic, .int .i64 jo, .int .i64 jm, .slice jA jl jc, .slice eA en ec, .slice sA sn sc, .slice aA an ac, .slice nA nn nc, .slice pA pn pc] 28) = w0 at *
  generalize hN : w.heap.size = N at *
  refine (dmod_any B ⟨⟨vA, vn, vc⟩, ⟨io, im, iA, il, ic⟩, ⟨jo, jm, jA, jl, jc⟩, ⟨eA, en, ec⟩, ⟨sA, sn, sc⟩, ⟨aA, an, ac⟩, ⟨nA, nn, nc⟩, ⟨pA, pn, pc⟩⟩ m w0 (by omega) Hrm0.out).mono ?_
  rintro e w1 ⟨rfl, hb1⟩
  have hz1 := hb1.size
  have Hb1 := hide (Hb0.out.trans (hb1.mono (by omega)))
  have Hrm1 := hide (Hrm0.out.below (hb1.mono (by omega)))
  have Hbx1 := hide (Hbx0.out.below hb1 (by omega))
  clear hb1 Hb0 Hrm0 Hbx0
  by_cases hc : modE m = 0
  · have hcb : (modE m != 0) = false := by simp [hc]
    obtain ⟨q0, q1, q2, q3, q4, q5, q6, q7, q8, q9, q10, q11⟩ := row12 Hbx1.out
    simp only at q0 q1 q2 q3 q4 q5 q6 q7 q8 q9 q10 q11
    go_wp2_with fail
    clear q0 q1 q2 q3 q4 q5 q6 q7 q8 q9 q10 q11
    refine (state_any6 B vA vn vc m.vars st w1 Ho.out (by omega) Hrm1.out.2.1).mono ?_
    rintro e w2 ⟨rfl, hb2⟩
    have hz2 := hb2.size
    have Hb2 := hide (Hb1.out.trans (hb2.mono (by omega)))
    have Hrm2 := hide (Hrm1.out.below (hb2.mono (by omega)))
    have Hbx2 := hide (Hbx1.out.below hb2 (by omega))
    clear hb2 Hb1 Hrm1 Hbx1
    by_cases hs : stB m.vars st = true
    · rw [hs]
      obtain ⟨s0, s1⟩ := stB_iff.1 hs
      obtain ⟨q0, q1, q2, q3, q4, q5, q6, q7, q8, q9, q10, q11⟩ := row12 Hbx2.out
      simp only at q0 q1 q2 q3 q4 q5 q6 q7 q8 q9 q10 q11
      go_wp2_with fail
      clear q0 q1 q2 q3 q4 q5 q6 q7 q8 q9 q10 q11
      refine (pick_any6 B vA vn vc m.vars p w2 Ho.out (by omega) Hrm2.out.2.1).mono ?_
      rintro e w3 ⟨rfl, hb3⟩
      have hz3 := hb3.size
      have Hb3 := hide (Hb2.out.trans (hb3.mono (by omega)))
      have Hrm3 := hide (Hrm2.out.below (hb3.mono (by omega)))
      have Hbx3 := hide (Hbx2.out.below hb3 (by omega))
      clear hb3 Hb2 Hrm2 Hbx2
      by_cases hk : pickB m.vars p = true
      · rw [hk]
        obtain ⟨p0, p1, p2⟩ := pick_good hk
        obtain ⟨q0, q1, q2, q3, q4, q5, q6, q7, q8, q9, q10, q11⟩ := row12 Hbx3.out
        simp only at q0 q1 q2 q3 q4 q5 q6 q7 q8 q9 q10 q11
        go_wp2_with fail
        clear q0 q1 q2 q3 q4 q5 q6 q7 q8 q9 q10 q11
        refine (Dom.part_any vA vn vc B m.vars st false w3 Ho.out.1 (by omega) Hrm3.out.2.1 Ho.out.2.2.2).mono ?_
        rintro e w4 ⟨rfl, hb4⟩
        have hz4 := hb4.size
        have Hb4 := hide (Hb3.out.trans (hb4.mono (by omega)))
        have Hrm4 := hide (Hrm3.out.below (hb4.mono (by omega)))
        have Hbx4 := hide (Hbx3.out.below hb4 (by omega))
        clear hb4 Hb3 Hrm3 Hbx3
        obtain ⟨t, ht, ht512⟩ : ∃ t : Nat, Dom.totL m.vars = (t : Int) ∧ t ≤ 512 := ⟨totN m, by unfold totN; have := (Dom.totL_bd m.vars).1; omega, by unfold totN; have := (Dom.totL_bd m.vars).2; omega⟩
        have htn : totN m = t := by unfold totN; rw [ht]; rfl
        obtain ⟨b0, b1, _, _⟩ := base_mix (mod_vars hc) s0 s1 p0 p1 p2
        have hw1 : wrap64 (Dom.partL m.vars st false + p) = Dom.partL m.vars st false + p := Dom.wrap64_mid _ (by omega) (by omega)
        have hsn : sn ≤ 12 := by have h1 := (mod_sys hc).2; have h2 := Hrm4.out.2.2.2.2.2.1.1; simp only at h2; omega
        obtain ⟨q0, q1, q2, q3, q4, q5, q6, q7, q8, q9, q10, q11⟩ := row12 Hbx4.out
        simp only at q0 q1 q2 q3 q4 q5 q6 q7 q8 q9 q10 q11
        go_wp2_with fail
        (try simp only [hw1])
        clear q0 q1 q2 q3 q4 q5 q6 q7 q8 q9 q10 q11
        refine (choices_any B vA vn vc m.vars st p (Dom.partL m.vars st false + p) sA sn sc m.sys w4 Ho.out (by omega) Hrm4.out.2.1 Hrm4.out.2.2.2.2.2.1 (mod_vars hc) b0 b1 (mod_sys hc).1 hsn t ht ht512).mono ?_
        intro e w5 hp
        obtain ⟨O4, n4, c4, rfl, p2, p3, p4⟩ := hp
        have Hp := hide (ints_up (w := w) (by exact ⟨O4, n4, c4, rfl, p2, p3, p4⟩) (by rw [hN]; exact Hb4.out))
        clear p2 p3 p4
        go_wp2_with fail
        go_ret
        rw [← sys_chosen hc s0 s1 hk, htn]
        exact Hp.out
      · have hkb : pickB m.vars p = false := by simpa using hk
        rw [hkb]
        have Hf : Hid (sysL m st p = []) := hide (by unfold sysL; rw [if_neg (fun h => hk h.2.2.2)])
        go_wp2_with fail
        go_ret
        rw [Hf.out, ← hN] at *
        exact ints_none Hb3.out
    · have hsb : stB m.vars st = false := by simpa using hs
      rw [hsb]
      have Hf : Hid (sysL m st p = []) := hide (by unfold sysL; rw [if_neg (fun h => hs (stB_iff.2 ⟨h.2.1, h.2.2.1⟩))])
      go_wp2_with fail
      go_ret
      rw [Hf.out, ← hN] at *
      exact ints_none Hb2.out
  · have hcb : (modE m != 0) = true := by simp [hc]
    have Hf : Hid (sysL m st p = []) := hide (by unfold sysL; rw [if_neg (by intro h; first | exact hc h | exact hc h.1)])
    clear hc
    go_wp2_with fail
    go_ret
    rw [Hf.out, ← hN] at *
    exact ints_none Hb1.out
end Go.Proofs.YtbppdalfcldodaaGreat
