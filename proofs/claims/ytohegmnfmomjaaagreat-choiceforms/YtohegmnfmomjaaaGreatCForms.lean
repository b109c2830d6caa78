/- The walk of ChoiceForms. -/
import Derived.Test.YtohegmnfmomjaaaGreatCAwake
import Derived.Test.YtohegmnfmomjaaaGreatGRefC
import Derived.Deep.RegionHeld3
namespace Go.Proofs.YtohegmnfmomjaaaGreat
open Go.RowKit Ex
set_option linter.unusedSimpArgs false
set_option linter.unusedVariables false

def RIM (w : World) (B : Nat) (O : Option Addr) (xs : List Int) : Prop := RI w B O xs.length xs ∧ xs.length ≤ maxLen
theorem own_le {w : World} {base e sz n c : Nat} {O : Option Addr} {xs : List Value} (h : w.ownsRow base e sz (.slice O n c) n xs) : n ≤ maxLen := by
  rcases h.2 with ⟨e1, h⟩ | ⟨g3, cap3, cur, e1, _, _, h2, h3, _⟩
  · rw [h]; unfold maxLen; omega
  · exact Nat.le_trans h2 h3
section
variable {W w' : World} {B : Nat}
theorem c_dE {x : M8} {m : MT} (hB : B ≤ W.heap.size) (Hrm : Hid (RM W B x m)) (hs : Hid (Below W.heap.size W w')) :
    Calls Tryz.prog 7 #[.agg x.cells] w' fun e w'' => ∃ O c, e = .returned (.slice O (initEnvL m).length c) ∧ Hid (RIM w'' w''.heap.size O (initEnvL m)) ∧ Hid (Below w'.heap.size w' w'') ∧ Hid (Below W.heap.size W w'') :=
  (dinitE_any B x m w' (Nat.le_trans hB hs.out.size) (Hrm.out.below (hs.out.mono hB))).mono fun e w'' ⟨O, k, c, he, hown, hk, hb⟩ => by
    subst hk
    exact ⟨O, c, he, hide ⟨own_ri hown, own_le hown⟩, hide hb, hide (hs.out.trans (hb.mono hs.out.size))⟩
theorem c_rE {x : M8} {m : MT} (hB : B ≤ W.heap.size) (Hrm : Hid (RM W B x m)) (hs : Hid (Below W.heap.size W w')) :
    Calls Tryz.prog 8 #[.agg x.cells] w' fun e w'' => ∃ O c, e = .returned (.slice O (initEnvL m).length c) ∧ Hid (RIM w'' w''.heap.size O (initEnvL m)) ∧ Hid (Below w'.heap.size w' w'') ∧ Hid (Below W.heap.size W w'') :=
  (rinitE_any B x m w' (Nat.le_trans hB hs.out.size) (Hrm.out.below (hs.out.mono hB))).mono fun e w'' ⟨O, k, c, he, hown, hk, hb⟩ => by
    subst hk
    exact ⟨O, c, he, hide ⟨own_ri hown, own_le hown⟩, hide hb, hide (hs.out.trans (hb.mono hs.out.size))⟩
theorem c_dS {x : M8} {m : MT} {p : Int} (hB : B ≤ W.heap.size) (Hrm : Hid (RM W B x m)) (hs : Hid (Below W.heap.size W w')) :
    Calls Tryz.prog 9 #[.agg x.cells, .int .i64 p] w' fun e w'' => ∃ O c, e = .returned (.slice O (initSysL m p).length c) ∧ Hid (RIM w'' w''.heap.size O (initSysL m p)) ∧ Hid (Below w'.heap.size w' w'') ∧ Hid (Below W.heap.size W w'') :=
  (dinitS_any B x m p w' (Nat.le_trans hB hs.out.size) (Hrm.out.below (hs.out.mono hB))).mono fun e w'' ⟨O, k, c, he, hown, hk, hb⟩ => by
    subst hk
    exact ⟨O, c, he, hide ⟨own_ri hown, own_le hown⟩, hide hb, hide (hs.out.trans (hb.mono hs.out.size))⟩
theorem c_rS {x : M8} {m : MT} {p : Int} (hB : B ≤ W.heap.size) (Hrm : Hid (RM W B x m)) (hs : Hid (Below W.heap.size W w')) :
    Calls Tryz.prog 10 #[.agg x.cells, .int .i64 p] w' fun e w'' => ∃ O c, e = .returned (.slice O (initSysL m p).length c) ∧ Hid (RIM w'' w''.heap.size O (initSysL m p)) ∧ Hid (Below w'.heap.size w' w'') ∧ Hid (Below W.heap.size W w'') :=
  (rinitS_any B x m p w' (Nat.le_trans hB hs.out.size) (Hrm.out.below (hs.out.mono hB))).mono fun e w'' ⟨O, k, c, he, hown, hk, hb⟩ => by
    subst hk
    exact ⟨O, c, he, hide ⟨own_ri hown, own_le hown⟩, hide hb, hide (hs.out.trans (hb.mono hs.out.size))⟩
theorem c_dV {x : M8} {m : MT} {st : Int} (hB : B ≤ W.heap.size) (Hrm : Hid (RM W B x m)) (hs : Hid (Below W.heap.size W w')) :
    Calls Tryz.prog 11 #[.agg x.cells, .int .i64 st] w' fun e w'' => ∃ O c, e = .returned (.slice O (envL m st).length c) ∧ Hid (RIM w'' w''.heap.size O (envL m st)) ∧ Hid (Below w'.heap.size w' w'') ∧ Hid (Below W.heap.size W w'') :=
  (denv_any B x m st w' (Nat.le_trans hB hs.out.size) (Hrm.out.below (hs.out.mono hB))).mono fun e w'' ⟨O, k, c, he, hown, hk, hb⟩ => by
    subst hk
    exact ⟨O, c, he, hide ⟨own_ri hown, own_le hown⟩, hide hb, hide (hs.out.trans (hb.mono hs.out.size))⟩
theorem c_rV {x : M8} {m : MT} {st : Int} (hB : B ≤ W.heap.size) (Hrm : Hid (RM W B x m)) (hs : Hid (Below W.heap.size W w')) :
    Calls Tryz.prog 12 #[.agg x.cells, .int .i64 st] w' fun e w'' => ∃ O c, e = .returned (.slice O (envL m st).length c) ∧ Hid (RIM w'' w''.heap.size O (envL m st)) ∧ Hid (Below w'.heap.size w' w'') ∧ Hid (Below W.heap.size W w'') :=
  (renv_any B x m st w' (Nat.le_trans hB hs.out.size) (Hrm.out.below (hs.out.mono hB))).mono fun e w'' ⟨O, k, c, he, hown, hk, hb⟩ => by
    subst hk
    exact ⟨O, c, he, hide ⟨own_ri hown, own_le hown⟩, hide hb, hide (hs.out.trans (hb.mono hs.out.size))⟩
theorem c_dY {x : M8} {m : MT} {st p : Int} (hB : B ≤ W.heap.size) (Hrm : Hid (RM W B x m)) (hs : Hid (Below W.heap.size W w')) :
    Calls Tryz.prog 13 #[.agg x.cells, .int .i64 st, .int .i64 p] w' fun e w'' => ∃ O c, e = .returned (.slice O (sysL m st p).length c) ∧ Hid (RIM w'' w''.heap.size O (sysL m st p)) ∧ Hid (Below w'.heap.size w' w'') ∧ Hid (Below W.heap.size W w'') :=
  (dsys_any B x m st p w' (Nat.le_trans hB hs.out.size) (Hrm.out.below (hs.out.mono hB))).mono fun e w'' ⟨O, k, c, he, hown, hk, hb⟩ => by
    subst hk
    exact ⟨O, c, he, hide ⟨own_ri hown, own_le hown⟩, hide hb, hide (hs.out.trans (hb.mono hs.out.size))⟩
theorem c_rY {x : M8} {m : MT} {st p : Int} (hB : B ≤ W.heap.size) (Hrm : Hid (RM W B x m)) (hs : Hid (Below W.heap.size W w')) :
    Calls Tryz.prog 14 #[.agg x.cells, .int .i64 st, .int .i64 p] w' fun e w'' => ∃ O c, e = .returned (.slice O (sysL m st p).length c) ∧ Hid (RIM w'' w''.heap.size O (sysL m st p)) ∧ Hid (Below w'.heap.size w' w'') ∧ Hid (Below W.heap.size W w'') :=
  (rsys_any B x m st p w' (Nat.le_trans hB hs.out.size) (Hrm.out.below (hs.out.mono hB))).mono fun e w'' ⟨O, k, c, he, hown, hk, hb⟩ => by
    subst hk
    exact ⟨O, c, he, hide ⟨own_ri hown, own_le hown⟩, hide hb, hide (hs.out.trans (hb.mono hs.out.size))⟩
theorem c_awake6 (hs : Hid (Below W.heap.size W w')) : Calls Tryz.prog 5 #[] w' fun e w'' => e = .returned (.bool true) ∧ Hid (Below W.heap.size W w'') :=
  (awake_any w').mono fun _ _ ⟨he, hb⟩ => ⟨he, hide (hs.out.trans (hb.mono hs.out.size))⟩
theorem c_ints6 {w1 : World} {O D : Option Addr} {xs : List Int} {c k : Nat} (h1 : Hid (RIM w1 w1.heap.size O xs)) (h2 : Hid (RIM w' w'.heap.size D xs)) (h12 : Hid (Below w1.heap.size w1 w')) (hs : Hid (Below W.heap.size W w')) :
    Calls Tryz.prog 6 #[.slice O xs.length c, .slice D xs.length k] w' fun e w'' => e = .returned (.bool true) ∧ Hid (Below W.heap.size W w'') :=
  (sameInts_any O D _ c k w'.heap.size xs w' h1.out.2 (Nat.le_refl _) ((h1.out.1.below h12.out).more h12.out.size) h2.out.1).mono fun _ _ ⟨he, hb⟩ => ⟨he, hide (hs.out.trans (hb.mono hs.out.size))⟩
theorem keep12 {N : Nat} {x : M8} (H1 : Hid (BoxM W N x)) (h1 : N < W.heap.size) (hs : Hid (Below W.heap.size W w')) : w'.cell? ⟨N, 0, none⟩ = some (.slice x.vars.A x.vars.n x.vars.c) ∧ w'.cell? ⟨N, 1, none⟩ = some (.int .i64 x.ie.op) ∧ w'.cell? ⟨N, 2, none⟩ = some (.int .i64 x.ie.n) ∧ w'.cell? ⟨N, 3, none⟩ = some (.slice x.ie.A x.ie.len x.ie.cap) ∧ w'.cell? ⟨N, 4, none⟩ = some (.int .i64 x.is.op) ∧ w'.cell? ⟨N, 5, none⟩ = some (.int .i64 x.is.n) ∧ w'.cell? ⟨N, 6, none⟩ = some (.slice x.is.A x.is.len x.is.cap) ∧ w'.cell? ⟨N, 7, none⟩ = some (.slice x.env.A x.env.n x.env.c) ∧ w'.cell? ⟨N, 8, none⟩ = some (.slice x.sys.A x.sys.n x.sys.c) ∧ w'.cell? ⟨N, 9, none⟩ = some (.slice x.asm.A x.asm.n x.asm.c) ∧ w'.cell? ⟨N, 10, none⟩ = some (.slice x.ens.A x.ens.n x.ens.c) ∧ w'.cell? ⟨N, 11, none⟩ = some (.slice x.prio.A x.prio.n x.prio.c) := row12 (H1.out.below hs.out h1)
end
set_option maxRecDepth 100000 in
set_option maxHeartbeats 8000000 in
theorem cforms_any (B : Nat) (x : M8) (m : MT) (st p : Int) (w : World) (hB : B ≤ w.heap.size) (hrm : RM w B x m) :
    Calls Tryz.prog 3 #[.agg x.cells, .int .i64 st, .int .i64 p] w fun e w' => e = .returned (.bool true) ∧ Below w.heap.size w w' := by
  have hbx := (Below.refl w.heap.size w).alloc (Nat.le_refl _) (.cells x.cells 28)
  have Hrm0 := hide (hrm.below (hbx.mono hB))
  have Hbx0 := hide (boxM_new w x)
  have Hb0 := hide hbx
  have hz0 : w.heap.size + 1 ≤ (w.alloc (.cells x.cells 28)).heap.size := by simp
  obtain ⟨⟨vA, vn, vc⟩, ⟨io, im, iA, il, ic⟩, ⟨jo, jm, jA, jl, jc⟩, ⟨eA, en, ec⟩, ⟨sA, sn, sc⟩, ⟨aA, an, ac⟩, ⟨nA, nn, nc⟩, ⟨pA, pn, pc⟩⟩ := x
  clear hrm hbx
  simp only [M8.cells, SL.v] at *
  obtain ⟨q0, q1, q2, q3, q4, q5, q6, q7, q8, q9, q10, q11⟩ := row12 Hbx0.out
  simp only at q0 q1 q2 q3 q4 q5 q6 q7 q8 q9 q10 q11
  go_enter Tryz.func3, Tryz.ntmps3
  go_wp2_with fail
  clear q0 q1 q2 q3 q4 q5 q6 q7 q8 q9 q10 q11
  generalize w.alloc (.cells #[.slice vA vn vc, .int .i64 io, .int .i64 im, .slice iA il ic, .int .i64 jo, .int .i64 jm, .slice jA jl jc, .slice eA en ec, .slice sA sn sc, .slice aA an ac, .slice nA nn nc, .slice pA pn pc] 28) = w0 at *
  generalize hN : w.heap.size = N at *
  refine (hv6_any B ⟨⟨vA, vn, vc⟩, ⟨io, im, iA, il, ic⟩, ⟨jo, jm, jA, jl, jc⟩, ⟨eA, en, ec⟩, ⟨sA, sn, sc⟩, ⟨aA, an, ac⟩, ⟨nA, nn, nc⟩, ⟨pA, pn, pc⟩⟩ m w0 (by omega) Hrm0.out).mono ?_
  rintro e w1 ⟨rfl, hb1⟩
  have hz1 := hb1.size
  have Hb1 := hide (Hb0.out.trans (hb1.mono (by omega)))
  have Hrm1 := hide (Hrm0.out.below (hb1.mono (by omega)))
  have Hbx1 := hide (Hbx0.out.below hb1 (by omega))
  clear hb1 Hb0 Hrm0 Hbx0
  generalize hv6 m = hv at *
  by_cases hh : 0 < hv
  · have hhb : decide (0 < hv) = true := by simp [hh]
    go_wp2_with fail
    refine (awake_any _).mono ?_
    rintro e y1 ⟨rfl, hby⟩
    go_wp2_with fail
    go_ret
    exact ⟨rfl, by rw [hN]; exact Hb1.out.trans (hby.mono (by omega))⟩
  · have hhb : decide (0 < hv) = false := by simp; omega
    go_wp2_with fail
    clear hh hhb
    have hBW : B ≤ w1.heap.size := by omega
    have hNW : N < w1.heap.size := by omega
    have Hdr : Hid (Below w1.heap.size w1 w1.drew) := hide (Below.refl _ _).drew
    go_region_held3 (fun w' => w'.cell? ⟨N, 0, none⟩ = some (.slice vA vn vc) ∧ w'.cell? ⟨N, 1, none⟩ = some (.int .i64 io) ∧ w'.cell? ⟨N, 2, none⟩ = some (.int .i64 im) ∧ w'.cell? ⟨N, 3, none⟩ = some (.slice iA il ic) ∧ w'.cell? ⟨N, 4, none⟩ = some (.int .i64 jo) ∧ w'.cell? ⟨N, 5, none⟩ = some (.int .i64 jm) ∧ w'.cell? ⟨N, 6, none⟩ = some (.slice jA jl jc) ∧ w'.cell? ⟨N, 7, none⟩ = some (.slice eA en ec) ∧ w'.cell? ⟨N, 8, none⟩ = some (.slice sA sn sc) ∧ w'.cell? ⟨N, 9, none⟩ = some (.slice aA an ac) ∧ w'.cell? ⟨N, 10, none⟩ = some (.slice nA nn nc) ∧ w'.cell? ⟨N, 11, none⟩ = some (.slice pA pn pc))
      (first | exact keep12 Hbx1 hNW (by assumption))
      (first
        | (go_at_call 7; refine (c_dE (x := ⟨⟨vA, vn, vc⟩, ⟨io, im, iA, il, ic⟩, ⟨jo, jm, jA, jl, jc⟩, ⟨eA, en, ec⟩, ⟨sA, sn, sc⟩, ⟨aA, an, ac⟩, ⟨nA, nn, nc⟩, ⟨pA, pn, pc⟩⟩) hBW Hrm1 (by assumption)).mono ?_; rintro e v1 ⟨O, c, rfl, ho1, hq1, hb1⟩)
        | (go_at_call 8; refine (c_rE (x := ⟨⟨vA, vn, vc⟩, ⟨io, im, iA, il, ic⟩, ⟨jo, jm, jA, jl, jc⟩, ⟨eA, en, ec⟩, ⟨sA, sn, sc⟩, ⟨aA, an, ac⟩, ⟨nA, nn, nc⟩, ⟨pA, pn, pc⟩⟩) hBW Hrm1 (by assumption)).mono ?_; rintro e v1 ⟨O, c, rfl, ho1, hq1, hb1⟩)
        | (go_at_call 9; refine (c_dS (x := ⟨⟨vA, vn, vc⟩, ⟨io, im, iA, il, ic⟩, ⟨jo, jm, jA, jl, jc⟩, ⟨eA, en, ec⟩, ⟨sA, sn, sc⟩, ⟨aA, an, ac⟩, ⟨nA, nn, nc⟩, ⟨pA, pn, pc⟩⟩) hBW Hrm1 (by assumption)).mono ?_; rintro e v1 ⟨O, c, rfl, ho1, hq1, hb1⟩)
        | (go_at_call 10; refine (c_rS (x := ⟨⟨vA, vn, vc⟩, ⟨io, im, iA, il, ic⟩, ⟨jo, jm, jA, jl, jc⟩, ⟨eA, en, ec⟩, ⟨sA, sn, sc⟩, ⟨aA, an, ac⟩, ⟨nA, nn, nc⟩, ⟨pA, pn, pc⟩⟩) hBW Hrm1 (by assumption)).mono ?_; rintro e v1 ⟨O, c, rfl, ho1, hq1, hb1⟩)
        | (go_at_call 11; refine (c_dV (x := ⟨⟨vA, vn, vc⟩, ⟨io, im, iA, il, ic⟩, ⟨jo, jm, jA, jl, jc⟩, ⟨eA, en, ec⟩, ⟨sA, sn, sc⟩, ⟨aA, an, ac⟩, ⟨nA, nn, nc⟩, ⟨pA, pn, pc⟩⟩) hBW Hrm1 (by assumption)).mono ?_; rintro e v1 ⟨O, c, rfl, ho1, hq1, hb1⟩)
        | (go_at_call 12; refine (c_rV (x := ⟨⟨vA, vn, vc⟩, ⟨io, im, iA, il, ic⟩, ⟨jo, jm, jA, jl, jc⟩, ⟨eA, en, ec⟩, ⟨sA, sn, sc⟩, ⟨aA, an, ac⟩, ⟨nA, nn, nc⟩, ⟨pA, pn, pc⟩⟩) hBW Hrm1 (by assumption)).mono ?_; rintro e v1 ⟨O, c, rfl, ho1, hq1, hb1⟩)
        | (go_at_call 13; refine (c_dY (x := ⟨⟨vA, vn, vc⟩, ⟨io, im, iA, il, ic⟩, ⟨jo, jm, jA, jl, jc⟩, ⟨eA, en, ec⟩, ⟨sA, sn, sc⟩, ⟨aA, an, ac⟩, ⟨nA, nn, nc⟩, ⟨pA, pn, pc⟩⟩) hBW Hrm1 (by assumption)).mono ?_; rintro e v1 ⟨O, c, rfl, ho1, hq1, hb1⟩)
        | (go_at_call 14; refine (c_rY (x := ⟨⟨vA, vn, vc⟩, ⟨io, im, iA, il, ic⟩, ⟨jo, jm, jA, jl, jc⟩, ⟨eA, en, ec⟩, ⟨sA, sn, sc⟩, ⟨aA, an, ac⟩, ⟨nA, nn, nc⟩, ⟨pA, pn, pc⟩⟩) hBW Hrm1 (by assumption)).mono ?_; rintro e v1 ⟨O, c, rfl, ho1, hq1, hb1⟩)
        | (go_at_call 6; refine (c_ints6 (by assumption) (by assumption) (by assumption) (by assumption)).mono ?_; rintro e v1 ⟨rfl, hb1⟩)
        | (go_at_call 5; refine (c_awake6 (by assumption)).mono ?_; rintro e v1 ⟨rfl, hb1⟩))
    go_wp2_with fail
    go_ret
    exact ⟨rfl, by rw [hN]; exact Hb1.out.trans (hb1.out.mono (by omega))⟩
end Go.Proofs.YtohegmnfmomjaaaGreat
