/- The program's choice: InitEnv, InitSys. -/
import Derived.Test.YtbppdalfcldodaaGreatCDevH
set_option maxRecDepth 100000
namespace Go.Proofs.YtbppdalfcldodaaGreat
open Go.RowKit Ex
open Go.Sort (grow)
set_option linter.unusedSimpArgs false
set_option linter.unusedVariables false

section
variable {W w' : World} {B : Nat} {vA : Option Addr} {vn vc : Nat} {lv : List Dom.V}
theorem c_free {env : Bool} (hB : B ≤ W.heap.size) (Hrv : Hid (Dom.RV W B vA vn lv)) (hn : vn ≤ 6) (hs : Hid (Below W.heap.size W w')) :
    Calls Tryz.prog 58 #[.slice vA vn vc, .bool env] w' fun e w'' => ∃ O n c, e = .returned (.slice O n c) ∧ Hid (Rows SetAt 5 w'' w''.heap.size ⟨O, n, c⟩ (anyGo env 0 lv)) ∧ Hid (Below W.heap.size W w'') :=
  (free_any B vA vn vc lv env w' hn (Nat.le_trans hB hs.out.size) (Hrv.out.below (hs.out.mono hB))).mono fun e w'' ⟨O, n, c, he, hr, hb⟩ => ⟨O, n, c, he, hide hr, hide (hs.out.trans (hb.mono hs.out.size))⟩
theorem c_leads {env : Bool} {O : Option Addr} {n c : Nat} {b : Int} (hB : B ≤ W.heap.size) (Hrv : Hid (Dom.RV W B vA vn lv)) (Ho : Hid (OkVars ⟨vA, vn, vc⟩ lv)) (HM : Hid (Dom.mayL lv = 0)) (h0 : 0 ≤ b) (h1 : b < Dom.totL lv) (Hrows : Hid (Rows SetAt 5 w' w'.heap.size ⟨O, n, c⟩ (anyGo env 0 lv))) (hs : Hid (Below W.heap.size W w')) :
    Calls Tryz.prog 57 #[.agg #[.slice vA vn vc, .int .i64 0, .int .i64 0, .int .i64 b], .slice O n c] w' fun e w'' => ∃ O2 n2 c2, e = .returned (.slice O2 n2 c2) ∧ Hid (Dom.RI w'' w''.heap.size O2 n2 (leadsL (stepsL lv 0 0 b) (anyGo env 0 lv) b)) ∧ Hid (n2 ≤ 512) ∧ Hid (Below W.heap.size W w'') := by
  have h6 : n ≤ 6 := by
    have e1 := Hrows.out.1
    have e2 := any_len env lv 0
    have e3 := Dom.totL_len (Dom.mayL_zero HM.out).2
    simp only at e1; omega
  refine (leads_any w'.heap.size vA vn vc lv 0 0 b O n c (anyGo env 0 lv) w' Ho.out (Nat.le_refl _) ((Hrv.out.below (hs.out.mono hB)).more (Nat.le_trans hB hs.out.size)) Hrows.out HM.out h0 h1 (free_apart env) h6).mono fun e w'' hp => ?_
  obtain ⟨O2, n2, c2, he, p2, p3, p4⟩ := hp
  exact ⟨O2, n2, c2, he, hide (Dom.own_ri p2), hide (by rw [← p3]; exact leads_512 HM.out (free_apart env)), hide (hs.out.trans (p4.mono hs.out.size))⟩
theorem keep_v {N : Nat} (H1 : Hid (W.cell? ⟨N, 0, none⟩ = some (.slice vA vn vc))) (h1 : N < W.heap.size) (hs : Hid (Below W.heap.size W w')) : w'.cell? ⟨N, 0, none⟩ = some (.slice vA vn vc) := (hs.out.cell h1).trans H1.out
end

set_option maxHeartbeats 2000000 in
theorem dinitE_any (B : Nat) (x : M8) (m : MT) (w : World) (hB : B ≤ w.heap.size) (hrm : RM w B x m) : Calls Tryz.prog 27 #[.agg x.cells] w (IntsPost w (initEnvL m)) := by
  have hbx := (Below.refl w.heap.size w).alloc (Nat.le_refl _) (.cells x.cells 28)
  have Hrm0 := hide (hrm.below (hbx.mono hB))
  have Hbx0 := hide (boxM_new w x)
  have Hb0 := hide hbx
  have hz0 : w.heap.size + 1 ≤ (w.alloc (.cells x.cells 28)).heap.size := by simp
  have Ho := hide hrm.1
  obtain ⟨⟨vA, vn, vc⟩, ⟨io, im, iA, il, ic⟩, ⟨jo, jm, jA, jl, jc⟩, ⟨eA, en, ec⟩, ⟨sA, sn, sc⟩, ⟨aA, an, ac⟩, ⟨nA, nn, nc⟩, ⟨pA, pn, pc⟩⟩ := x
  clear hrm hbx
  simp only [M8.cells, SL.v] at *
  obtain ⟨q0, q1, q2, q3, q4, q5, q6, q7, q8, q9, q10, q11⟩ := row12 Hbx0.out
  simp only at q0 q1 q2 q3 q4 q5 q6 q7 q8 q9 q10 q11
  go_enter Tryz.func27, Tryz.ntmps27
  go_wp2_with fail
  clear q0 q1 q2 q3 q4 q5 q6 q7 q8 q9 q10 q11
  generalize w.alloc (.cells #[.slice vA vn vc, .int .i64 io, .int .i64 im, .slice iA il ic, .int .i64 jo, .int .i64 jm, .slice jA jl jc, .slice eA en ec, .slice sA sn sc, .slice aA an ac, .slice nA nn nc, .slice pA pn pc] 28) = w0 at *
  generalize hN : w.heap.size = N at *
  refine (dmod_any B ⟨⟨vA, vn, vc⟩, ⟨io, im, iA, il, ic⟩, ⟨jo, jm, jA, jl, jc⟩, ⟨eA, en, ec⟩, ⟨sA, sn, sc⟩, ⟨aA, an, ac⟩, ⟨nA, nn, nc⟩, ⟨pA, pn, pc⟩⟩ m w0 (by omega) Hrm0.out).mono ?_
  rintro e w1 ⟨rfl, hb1⟩
  have hz1 := hb1.size
  have Hb1 := hide (Hb0.out.trans (hb1.mono (by omega)))
  have Hrm1 := hide (Hrm0.out.below (hb1.mono (by omega)))
  have Hbx1 := hide (Hbx0.out.below hb1 (by omega))
  clear hb1 Hb0 Hrm0 Hbx0
  by_cases hc : modE m = 0
  · have hcb : (modE m != 0) = false := by simp [hc]
    have b0 : (0 : Int) ≤ 0 := Int.le_refl 0
    have b1 : (0 : Int) < Dom.totL m.vars := by have := (Dom.totL_bd m.vars).1; have := (Dom.mayL_zero (mod_vars hc)).2; omega
    have HM := hide (mod_vars hc)
    have hn6 : vn ≤ 6 := by have h1 := Hrm1.out.2.1.1; have h2 := Dom.totL_len (Dom.mayL_zero HM.out).2; simp only at h1; omega
    have Hrv := hide Hrm1.out.2.1
    have Hq0 := hide (row12 Hbx1.out).1
    simp only at Hq0 Hrv
    have hBW : B ≤ w1.heap.size := by omega
    have hNW : N < w1.heap.size := by omega
    have Hdr : Hid (Below w1.heap.size w1 w1.drew) := hide (Below.refl _ _).drew
    go_wp2_with fail
    go_region_held3 (fun w' => w'.cell? ⟨N, 0, none⟩ = some (.slice vA vn vc))
      (first | exact keep_v Hq0 hNW (by assumption))
      (first
        | (go_at_call 58; refine (c_free (lv := m.vars) hBW Hrv hn6 (by assumption)).mono ?_; rintro e va ⟨Oa, na, ca, rfl, hoa, hba⟩)
        | (go_at_call 57; refine (c_leads (lv := m.vars) (env := true) hBW Hrv Ho HM b0 b1 hoa (by assumption)).mono ?_; rintro e vb ⟨Ob, nb, cb, rfl, hob, hnb, hbb⟩))
    obtain ⟨w2, rfl⟩ : ∃ w9, w9 = vb := ⟨_, rfl⟩
    have hb2 := hbb.out
    have hz2 := hb2.size
    have Hb2 := hide (Hb1.out.trans (hb2.mono (by omega)))
    have Hrm2 := hide (Hrm1.out.below (hb2.mono (by omega)))
    have Hbx2 := hide (Hbx1.out.below hb2 (by omega))
    clear hb2 hbb hba hoa Hdr Hq0 Hrv Hb1 Hrm1 Hbx1
    obtain ⟨t, ht, ht512⟩ : ∃ t : Nat, Dom.totL m.vars = (t : Int) ∧ t ≤ 512 := ⟨totN m, by unfold totN; have := (Dom.totL_bd m.vars).1; omega, by unfold totN; have := (Dom.totL_bd m.vars).2; omega⟩
    have htn : totN m = t := by unfold totN; rw [ht]; rfl
    have Hxr : Hid (∀ x ∈ leadsL (stepsL m.vars 0 0 0) (anyGo true 0 m.vars) 0, 0 ≤ x ∧ x < Dom.totL m.vars) := hide (fun x hx => ((leads_all HM.out b0 b1 (free_apart true) x).1 hx).1)
    obtain ⟨dg, hdg⟩ := Hrm2.out.2.2.1
    simp only at hdg
    have Hdg := hide hdg
    clear hdg
    obtain ⟨q0, q1, q2, q3, q4, q5, q6, q7, q8, q9, q10, q11⟩ := row12 Hbx2.out
    simp only at q0 q1 q2 q3 q4 q5 q6 q7 q8 q9 q10 q11
    go_wp2_with fail
    clear q0 q1 q2 q3 q4 q5 q6 q7 q8 q9 q10 q11
    refine (begin_any B vA vn vc m.vars Ob nb cb (leadsL (stepsL m.vars 0 0 0) (anyGo true 0 m.vars) 0) io im iA il ic m.ie dg w2 Ho.out (by omega) Hrm2.out.2.1 hob.out Hdg.out Hxr.out (by have := hnb.out; omega) t ht ht512).mono ?_
    intro e w3 hp
    obtain ⟨O4, n4, c4, rfl, p2, p3, p4⟩ := hp
    have Hp := hide (ints_up (w := w) (by exact ⟨O4, n4, c4, rfl, p2, p3, p4⟩) (by rw [hN]; exact Hb2.out))
    clear p2 p3 p4
    go_wp2_with fail
    go_ret
    rw [← initE_free hc 0 0, htn]
    exact Hp.out
  · have hcb : (modE m != 0) = true := by simp [hc]
    have Hf : Hid (initEnvL m = []) := hide (by unfold initEnvL; rw [if_neg (by intro h; first | exact hc h | exact hc h.1)])
    clear hc
    go_wp2_with fail
    go_ret
    rw [Hf.out, ← hN] at *
    exact ints_none Hb1.out

set_option maxHeartbeats 2000000 in
theorem dinitS_any (B : Nat) (x : M8) (m : MT) (p : Int) (w : World) (hB : B ≤ w.heap.size) (hrm : RM w B x m) : Calls Tryz.prog 28 #[.agg x.cells, .int .i64 p] w (IntsPost w (initSysL m p)) := by
  have hbx := (Below.refl w.heap.size w).alloc (Nat.le_refl _) (.cells x.cells 28)
  have Hrm0 := hide (hrm.below (hbx.mono hB))
  have Hbx0 := hide (boxM_new w x)
  have Hb0 := hide hbx
  have hz0 : w.heap.size + 1 ≤ (w.alloc (.cells x.cells 28)).heap.size := by simp
  have Ho := hide hrm.1
  obtain ⟨⟨vA, vn, vc⟩, ⟨io, im, iA, il, ic⟩, ⟨jo, jm, jA, jl, jc⟩, ⟨eA, en, ec⟩, ⟨sA, sn, sc⟩, ⟨aA, an, ac⟩, ⟨nA, nn, nc⟩, ⟨pA, pn, pc⟩⟩ := x
  clear hrm hbx
  simp only [M8.cells, SL.v] at *
  obtain ⟨q0, q1, q2, q3, q4, q5, q6, q7, q8, q9, q10, q11⟩ := row12 Hbx0.out
  simp only at q0 q1 q2 q3 q4 q5 q6 q7 q8 q9 q10 q11
  go_enter Tryz.func28, Tryz.ntmps28
  go_wp2_with fail
  clear q0 q1 q2 q3 q4 q5 q6 q7 q8 q9 q10 q11
  generalize w.alloc (.cells #[.slice vA vn vc, .int .i64 io, .int .i64 im, .slice iA il ic, .int .i64 jo, .int .i64 jm, .slice jA jl jc, .slice eA en ec, .slice sA sn sc, .slice aA an ac, .slice nA nn nc, .slice pA pn pc] 28) = w0 at *
  generalize hN : w.heap.size = N at *
  refine (dmod_any B ⟨⟨vA, vn, vc⟩, ⟨io, im, iA, il, ic⟩, ⟨jo, jm, jA, jl, jc⟩, ⟨eA, en, ec⟩, ⟨sA, sn, sc⟩, ⟨aA, an, ac⟩, ⟨nA, nn, nc⟩, ⟨pA, pn, pc⟩⟩ m w0 (by omega) Hrm0.out).mono ?_
  rintro e w1 ⟨rfl, hb1⟩
  have hz1 := hb1.size
  have Hb1 := hide (Hb0.out.trans (hb1.mono (by omega)))
  have Hrm1 := hide (Hrm0.out.below (hb1.mono (by omega)))
  have Hbx1 := hide (Hbx0.out.below hb1 (by omega))
  clear hb1 Hb0 Hrm0 Hbx0
  by_cases hc : modE m = 0
  · have hcb : (modE m != 0) = false := by simp [hc]
    obtain ⟨q0, q1, q2, q3, q4, q5, q6, q7, q8, q9, q10, q11⟩ := row12 Hbx1.out
    simp only at q0 q1 q2 q3 q4 q5 q6 q7 q8 q9 q10 q11
    go_wp2_with fail
    clear q0 q1 q2 q3 q4 q5 q6 q7 q8 q9 q10 q11
    refine (pick_any6 B vA vn vc m.vars p w1 Ho.out (by omega) Hrm1.out.2.1).mono ?_
    rintro e w2 ⟨rfl, hb2⟩
    have hz2 := hb2.size
    have Hb2 := hide (Hb1.out.trans (hb2.mono (by omega)))
    have Hrm2 := hide (Hrm1.out.below (hb2.mono (by omega)))
    have Hbx2 := hide (Hbx1.out.below hb2 (by omega))
    clear hb2 Hb1 Hrm1 Hbx1
    by_cases hk : pickB m.vars p = true
    · rw [hk]
      obtain ⟨b0, b1, _⟩ := pick_good hk
      have HM := hide (mod_vars hc)
      have hn6 : vn ≤ 6 := by have h1 := Hrm2.out.2.1.1; have h2 := Dom.totL_len (Dom.mayL_zero HM.out).2; simp only at h1; omega
      have Hrv := hide Hrm2.out.2.1
      have Hq0 := hide (row12 Hbx2.out).1
      simp only at Hq0 Hrv
      have hBW : B ≤ w2.heap.size := by omega
      have hNW : N < w2.heap.size := by omega
      have Hdr : Hid (Below w2.heap.size w2 w2.drew) := hide (Below.refl _ _).drew
      go_wp2_with fail
      go_region_held3 (fun w' => w'.cell? ⟨N, 0, none⟩ = some (.slice vA vn vc))
        (first | exact keep_v Hq0 hNW (by assumption))
        (first
          | (go_at_call 58; refine (c_free (lv := m.vars) hBW Hrv hn6 (by assumption)).mono ?_; rintro e va ⟨Oa, na, ca, rfl, hoa, hba⟩)
          | (go_at_call 57; refine (c_leads (lv := m.vars) (env := false) hBW Hrv Ho HM b0 b1 hoa (by assumption)).mono ?_; rintro e vb ⟨Ob, nb, cb, rfl, hob, hnb, hbb⟩))
      obtain ⟨w3, rfl⟩ : ∃ w9, w9 = vb := ⟨_, rfl⟩
      have hb3 := hbb.out
      have hz3 := hb3.size
      have Hb3 := hide (Hb2.out.trans (hb3.mono (by omega)))
      have Hrm3 := hide (Hrm2.out.below (hb3.mono (by omega)))
      have Hbx3 := hide (Hbx2.out.below hb3 (by omega))
      clear hb3 hbb hba hoa Hdr Hq0 Hrv Hb2 Hrm2 Hbx2
      obtain ⟨t, ht, ht512⟩ : ∃ t : Nat, Dom.totL m.vars = (t : Int) ∧ t ≤ 512 := ⟨totN m, by unfold totN; have := (Dom.totL_bd m.vars).1; omega, by unfold totN; have := (Dom.totL_bd m.vars).2; omega⟩
      have htn : totN m = t := by unfold totN; rw [ht]; rfl
      have Hxr : Hid (∀ x ∈ leadsL (stepsL m.vars 0 0 p) (anyGo false 0 m.vars) p, 0 ≤ x ∧ x < Dom.totL m.vars) := hide (fun x hx => ((leads_all HM.out b0 b1 (free_apart false) x).1 hx).1)
      obtain ⟨dg, hdg⟩ := Hrm3.out.2.2.2.1
      simp only at hdg
      have Hdg := hide hdg
      clear hdg
      obtain ⟨q0, q1, q2, q3, q4, q5, q6, q7, q8, q9, q10, q11⟩ := row12 Hbx3.out
      simp only at q0 q1 q2 q3 q4 q5 q6 q7 q8 q9 q10 q11
      go_wp2_with fail
      clear q0 q1 q2 q3 q4 q5 q6 q7 q8 q9 q10 q11
      refine (begin_any B vA vn vc m.vars Ob nb cb (leadsL (stepsL m.vars 0 0 p) (anyGo false 0 m.vars) p) jo jm jA jl jc m.is dg w3 Ho.out (by omega) Hrm3.out.2.1 hob.out Hdg.out Hxr.out (by have := hnb.out; omega) t ht ht512).mono ?_
      intro e w4 hp
      obtain ⟨O4, n4, c4, rfl, p2, p3, p4⟩ := hp
      have Hp := hide (ints_up (w := w) (by exact ⟨O4, n4, c4, rfl, p2, p3, p4⟩) (by rw [hN]; exact Hb3.out))
      clear p2 p3 p4
      go_wp2_with fail
      go_ret
      rw [← initS_free hc hk 0 0, htn]
      exact Hp.out
    · have hkb : pickB m.vars p = false := by simpa using hk
      rw [hkb]
      have Hf : Hid (initSysL m p = []) := hide (by unfold initSysL; rw [if_neg (fun h => hk h.2)])
      go_wp2_with fail
      go_ret
      rw [Hf.out, ← hN] at *
      exact ints_none Hb2.out
  · have hcb : (modE m != 0) = true := by simp [hc]
    have Hf : Hid (initSysL m p = []) := hide (by unfold initSysL; rw [if_neg (by intro h; first | exact hc h | exact hc h.1)])
    clear hc
    go_wp2_with fail
    go_ret
    rw [Hf.out, ← hN] at *
    exact ints_none Hb1.out
end Go.Proofs.YtbppdalfcldodaaGreat
