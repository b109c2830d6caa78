/- The walk of ChoiceGuards. -/
import Derived.Test.YtohegmnfmomjaaaCGuardsA
import Derived.Test.YtohegmnfmomjaaaGLaw
import Derived.Test.YtohegmnfmomjaaaGFold
namespace Go.Proofs.Ytohegmnfmomjaaa
open Go.RowKit Ex
open Go.Sort (grow)
set_option linter.unusedSimpArgs false
set_option linter.unusedVariables false

theorem ie6_rm {w : World} {B : Nat} {y : E5} {t : T} (h : EX w B y t) : RM w B ⟨⟨none, 0, 0⟩, y, ⟨0, 0, none, 0, 0⟩, ⟨none, 0, 0⟩, ⟨none, 0, 0⟩, ⟨none, 0, 0⟩, ⟨none, 0, 0⟩, ⟨none, 0, 0⟩⟩ ⟨[], t, .mk 0 0 [], [], [], [], [], []⟩ :=
  ⟨⟨by show 0 ≤ maxLen; unfold maxLen; omega, Nat.le_refl _, by show 0 ≤ maxLen; unfold maxLen; omega, fun v hv => by simp at hv⟩, ⟨rfl, fun h => absurd h (by show ¬ 0 < 0; omega)⟩, h, leaf_ex _ _ _ _, nil_rows _ _ _ _, nil_rows _ _ _ _, nil_rows _ _ _ _, nil_rows _ _ _ _, nil_rows _ _ _ _⟩
theorem one_cmd {w : World} {B g : Nat} {y : E5} {t : T} (hg : w.heap[g]? = some (.cells #[.int .i64 y.op, .int .i64 y.n, .slice y.A y.len y.cap, .slice none 0 0] 31 (0, 0))) (h : EX w B y t) (hB : B ≤ w.heap.size) : Rows CmdAt 4 w w.heap.size ⟨some ⟨g, 0, none⟩, 1, 1⟩ [⟨t, []⟩] := by
  refine ⟨rfl, Nat.le_refl _, by show 1 ≤ maxLen; unfold maxLen; omega, fun _ => ⟨g, 0, rfl, (Array.getElem?_eq_some_iff.1 hg).1, fun k x hx => ?_⟩, fun h => by cases h⟩
  obtain ⟨hk, e⟩ := List.getElem?_eq_some_iff.1 hx
  simp at hk
  subst hk
  simp at e
  subst e
  exact ⟨⟨y, ⟨blk hg (i := 0) rfl, blk hg (i := 1) rfl, blk hg (i := 2) rfl⟩, h.more hB⟩, ⟨none, 0, 0⟩, blk hg (i := 3) rfl, nil_rows _ _ _ _⟩
theorem rm_both {w : World} {B : Nat} {x : M8} {m : MT} {s u : SL} {l k : List CT} (h : RM w B x m) (hs : Rows CmdAt 4 w B s l) (hu : Rows CmdAt 4 w B u k) : RM w B { x with env := s, sys := u } { m with env := l, sys := k } :=
  ⟨h.1, h.2.1, h.2.2.1, h.2.2.2.1, hs, hu, h.2.2.2.2.2.2.1, h.2.2.2.2.2.2.2.1, h.2.2.2.2.2.2.2.2⟩
theorem row_both {w : World} {g : Nat} {x : M8} {s u : SL} (h : w.rowIs g 28 12 (fun i => if i = 8 then u.v else if i = 7 then s.v else mV x i)) : w.rowIs g 28 12 (mV { x with env := s, sys := u }) :=
  h.congr (fun i hi => by
    have h : i = 0 ∨ i = 1 ∨ i = 2 ∨ i = 3 ∨ i = 4 ∨ i = 5 ∨ i = 6 ∨ i = 7 ∨ i = 8 ∨ i = 9 ∨ i = 10 ∨ i = 11 := by omega
    rcases h with rfl | rfl | rfl | rfl | rfl | rfl | rfl | rfl | rfl | rfl | rfl | rfl <;> rfl)
set_option maxRecDepth 100000 in
set_option maxHeartbeats 8000000 in
theorem cguards_any (B : Nat) (x : M8) (m : MT) (y : E5) (t : T) (st0 pk0 : Int) (w : World) (hB : B ≤ w.heap.size) (hrm : RM w B x m) (hex : EX w B y t) :
    Calls Try.prog 4 #[.agg x.cells, y.v, .int .i64 st0, .int .i64 pk0] w fun e w' => e = .returned (.bool true) ∧ Below w.heap.size w w' := by
  obtain ⟨⟨vA, vn, vc⟩, ⟨io, im, iA, il, ic⟩, ⟨jo, jm, jA, jl, jc⟩, ⟨eA, en, ec⟩, ⟨sA, sn, sc⟩, ⟨aA, an, ac⟩, ⟨nA, nn, nc⟩, ⟨pA, pn, pc⟩⟩ := x
  obtain ⟨yo, yn, yA, yl, yc⟩ := y
  have hbx := ((Below.refl w.heap.size w).alloc (Nat.le_refl _) (.cells (M8.cells ⟨⟨vA, vn, vc⟩, ⟨io, im, iA, il, ic⟩, ⟨jo, jm, jA, jl, jc⟩, ⟨eA, en, ec⟩, ⟨sA, sn, sc⟩, ⟨aA, an, ac⟩, ⟨nA, nn, nc⟩, ⟨pA, pn, pc⟩⟩) 28)).alloc (by simp) (.cells #[.int .i64 yo, .int .i64 yn, .slice yA yl yc] 25)
  have Hrow0 : Hid (((w.alloc (.cells (M8.cells ⟨⟨vA, vn, vc⟩, ⟨io, im, iA, il, ic⟩, ⟨jo, jm, jA, jl, jc⟩, ⟨eA, en, ec⟩, ⟨sA, sn, sc⟩, ⟨aA, an, ac⟩, ⟨nA, nn, nc⟩, ⟨pA, pn, pc⟩⟩) 28)).alloc (.cells #[.int .i64 yo, .int .i64 yn, .slice yA yl yc] 25)).rowIs w.heap.size 28 12 (mV ⟨⟨vA, vn, vc⟩, ⟨io, im, iA, il, ic⟩, ⟨jo, jm, jA, jl, jc⟩, ⟨eA, en, ec⟩, ⟨sA, sn, sc⟩, ⟨aA, an, ac⟩, ⟨nA, nn, nc⟩, ⟨pA, pn, pc⟩⟩)) := hide ((mV_new w ⟨⟨vA, vn, vc⟩, ⟨io, im, iA, il, ic⟩, ⟨jo, jm, jA, jl, jc⟩, ⟨eA, en, ec⟩, ⟨sA, sn, sc⟩, ⟨aA, an, ac⟩, ⟨nA, nn, nc⟩, ⟨pA, pn, pc⟩⟩).alloc _)
  have Hbx0 : Hid (Box3 ((w.alloc (.cells (M8.cells ⟨⟨vA, vn, vc⟩, ⟨io, im, iA, il, ic⟩, ⟨jo, jm, jA, jl, jc⟩, ⟨eA, en, ec⟩, ⟨sA, sn, sc⟩, ⟨aA, an, ac⟩, ⟨nA, nn, nc⟩, ⟨pA, pn, pc⟩⟩) 28)).alloc (.cells #[.int .i64 yo, .int .i64 yn, .slice yA yl yc] 25)) (w.heap.size + 1) yo yn yA yl yc) := hide (by
    have h := box_new (w.alloc (.cells (M8.cells ⟨⟨vA, vn, vc⟩, ⟨io, im, iA, il, ic⟩, ⟨jo, jm, jA, jl, jc⟩, ⟨eA, en, ec⟩, ⟨sA, sn, sc⟩, ⟨aA, an, ac⟩, ⟨nA, nn, nc⟩, ⟨pA, pn, pc⟩⟩) 28)) yo yn yA yl yc 25
    rw [show (w.alloc (.cells (M8.cells ⟨⟨vA, vn, vc⟩, ⟨io, im, iA, il, ic⟩, ⟨jo, jm, jA, jl, jc⟩, ⟨eA, en, ec⟩, ⟨sA, sn, sc⟩, ⟨aA, an, ac⟩, ⟨nA, nn, nc⟩, ⟨pA, pn, pc⟩⟩) 28)).heap.size = w.heap.size + 1 by simp] at h
    exact h)
  have Hrm0 := hide (hrm.below (hbx.mono hB))
  have Hex0 := hide (hex.below (hbx.mono hB))
  have Hb0 := hide hbx
  have hz0 : w.heap.size + 2 ≤ ((w.alloc (.cells (M8.cells ⟨⟨vA, vn, vc⟩, ⟨io, im, iA, il, ic⟩, ⟨jo, jm, jA, jl, jc⟩, ⟨eA, en, ec⟩, ⟨sA, sn, sc⟩, ⟨aA, an, ac⟩, ⟨nA, nn, nc⟩, ⟨pA, pn, pc⟩⟩) 28)).alloc (.cells #[.int .i64 yo, .int .i64 yn, .slice yA yl yc] 25)).heap.size := by simp
  have Ho := hide hrm.1
  clear hrm hex hbx
  obtain ⟨q0, q1, q2, q3, q4, q5, q6, q7, q8, q9, q10, q11⟩ := row12 (mV_box Hrow0.out)
  simp only [M8.cells, SL.v, E5.v] at *
  go_enter Try.func4, Try.ntmps4
  go_wp2_with fail
  clear q0 q1 q2 q3 q4 q5 q6 q7 q8 q9 q10 q11
  generalize (w.alloc (.cells #[.slice vA vn vc, .int .i64 io, .int .i64 im, .slice iA il ic, .int .i64 jo, .int .i64 jm, .slice jA jl jc, .slice eA en ec, .slice sA sn sc, .slice aA an ac, .slice nA nn nc, .slice pA pn pc] 28)).alloc (.cells #[.int .i64 yo, .int .i64 yn, .slice yA yl yc] 25) = w0 at *
  generalize hN : w.heap.size = N at *
  refine (hv6_any B ⟨⟨vA, vn, vc⟩, ⟨io, im, iA, il, ic⟩, ⟨jo, jm, jA, jl, jc⟩, ⟨eA, en, ec⟩, ⟨sA, sn, sc⟩, ⟨aA, an, ac⟩, ⟨nA, nn, nc⟩, ⟨pA, pn, pc⟩⟩ m w0 (by omega) Hrm0.out).mono ?_
  rintro e w1 ⟨rfl, hb1⟩
  have hz1 := hb1.size
  have Hb1 := hide (Hb0.out.trans (hb1.mono (by omega)))
  have Hrm1 := hide (Hrm0.out.below (hb1.mono (by omega)))
  have Hex1 := hide (Hex0.out.below (hb1.mono (by omega)))
  have Hrow1 := hide (Hrow0.out.of_block (hb1.block _ (by omega)))
  have Hbx1 := hide (Hbx0.out.below hb1 (by omega))
  clear hb1 Hb0 Hrm0 Hex0 Hrow0 Hbx0
  generalize hv6 m = hv at *
  by_cases hh : 0 < hv
  case pos =>
    have hhb : decide (0 < hv) = true := by simp [hh]
    go_wp2_with fail
    refine (awake_any _).mono ?_
    rintro e y1 ⟨rfl, hby⟩
    go_wp2_with fail
    go_ret
    exact ⟨rfl, by rw [hN]; exact Hb1.out.trans (hby.mono (by omega))⟩
  case neg =>
    have hhb : decide (0 < hv) = false := by simp; omega
    obtain ⟨f0, f1, f2⟩ := Hbx1.out
    go_wp2_with fail
    clear f0 f1 f2
    refine (hvx_any B ⟨⟨none, 0, 0⟩, ⟨yo, yn, yA, yl, yc⟩, ⟨0, 0, none, 0, 0⟩, ⟨none, 0, 0⟩, ⟨none, 0, 0⟩, ⟨none, 0, 0⟩, ⟨none, 0, 0⟩, ⟨none, 0, 0⟩⟩ ⟨[], t, .mk 0 0 [], [], [], [], [], []⟩ w1 (by omega) (ie6_rm Hex1.out)).mono ?_
    rintro e w2 ⟨rfl, hb2⟩
    have hz2 := hb2.size
    have Hb2 := hide (Hb1.out.trans (hb2.mono (by omega)))
    have Hrm2 := hide (Hrm1.out.below (hb2.mono (by omega)))
    have Hex2 := hide (Hex1.out.below (hb2.mono (by omega)))
    have Hrow2 := hide (Hrow1.out.of_block (hb2.block _ (by omega)))
    have Hbx2 := hide (Hbx1.out.below hb2 (by omega))
    clear hb2 Hb1 Hrm1 Hex1 Hrow1 Hbx1
    generalize hvM ⟨[], t, .mk 0 0 [], [], [], [], [], []⟩ = he at *
    by_cases hh2 : 0 < he
    case pos =>
      have hhc : decide (0 < he) = true := by simp [hh2]
      go_wp2_with fail
      refine (awake_any _).mono ?_
      rintro e y1 ⟨rfl, hby⟩
      go_wp2_with fail
      go_ret
      exact ⟨rfl, by rw [hN]; exact Hb2.out.trans (hby.mono (by omega))⟩
    case neg =>
      have hhc : decide (0 < he) = false := by simp; omega
      obtain ⟨q0, q1, q2, q3, q4, q5, q6, q7, q8, q9, q10, q11⟩ := row12 (mV_box Hrow2.out)
      simp only at q0 q1 q2 q3 q4 q5 q6 q7 q8 q9 q10 q11
      go_wp2_with fail
      clear q0 q1 q2 q3 q4 q5 q6 q7 q8 q9 q10 q11
      refine (rmod_any B ⟨⟨vA, vn, vc⟩, ⟨io, im, iA, il, ic⟩, ⟨jo, jm, jA, jl, jc⟩, ⟨eA, en, ec⟩, ⟨sA, sn, sc⟩, ⟨aA, an, ac⟩, ⟨nA, nn, nc⟩, ⟨pA, pn, pc⟩⟩ m w2 (by omega) Hrm2.out).mono ?_
      rintro e w3 ⟨rfl, hb3⟩
      have hz3 := hb3.size
      have Hb3 := hide (Hb2.out.trans (hb3.mono (by omega)))
      have Hrm3 := hide (Hrm2.out.below (hb3.mono (by omega)))
      have Hex3 := hide (Hex2.out.below (hb3.mono (by omega)))
      have Hrow3 := hide (Hrow2.out.of_block (hb3.block _ (by omega)))
      have Hbx3 := hide (Hbx2.out.below hb3 (by omega))
      clear hb3 Hb2 Hrm2 Hex2 Hrow2 Hbx2
      by_cases hc : modE m = 0
      case neg =>
        have hcb : (modE m != 0) = true := by simp [hc]
        go_wp2_with fail
        refine (awake_any _).mono ?_
        rintro e y1 ⟨rfl, hby⟩
        go_wp2_with fail
        go_ret
        exact ⟨rfl, by rw [hN]; exact Hb3.out.trans (hby.mono (by omega))⟩
      case pos =>
        have hcb : (modE m != 0) = false := by simp [hc]
        obtain ⟨q0, _⟩ := row12 (mV_box Hrow3.out)
        simp only at q0
        go_wp2_with fail
        clear q0
        refine (Dom.total_any vA vn vc B m.vars w3 Ho.out.1 (by omega) Hrm3.out.2.1).mono ?_
        rintro e w4 ⟨rfl, hb4⟩
        have hz4 := hb4.size
        have Hb4 := hide (Hb3.out.trans (hb4.mono (by omega)))
        have Hrm4 := hide (Hrm3.out.below (hb4.mono (by omega)))
        have Hex4 := hide (Hex3.out.below (hb4.mono (by omega)))
        have Hrow4 := hide (Hrow3.out.of_block (hb4.block _ (by omega)))
        have Hbx4 := hide (Hbx3.out.below hb4 (by omega))
        clear hb4 Hb3 Hrm3 Hex3 Hrow3 Hbx3
        obtain ⟨tt, ht, ht512⟩ : ∃ t : Nat, Dom.totL m.vars = (t : Int) ∧ t ≤ 512 := ⟨totN m, by unfold totN; have := (Dom.totL_bd m.vars).1; omega, by unfold totN; have := (Dom.totL_bd m.vars).2; omega⟩
        have Ht := hide ht
        rw [ht]
        clear ht hc
        by_cases ht1 : tt < 1
        case pos =>
          have htb : decide ((tt : Int) < 1) = true := by simp; omega
          have htc : decide (tt < 1) = true := by simp; omega
          go_wp2_with fail
          refine (awake_any _).mono ?_
          rintro e y1 ⟨rfl, hby⟩
          go_wp2_with fail
          go_ret
          exact ⟨rfl, by rw [hN]; exact Hb4.out.trans (hby.mono (by omega))⟩
        case neg =>
          have htb : decide ((tt : Int) < 1) = false := by simp; omega
          have htc : decide (tt < 1) = false := by simp; omega
          go_wp2_with fail
          clear htb htc hcb hhb hhc hh hh2
          refine guards_region (base := N) (nb := N) (eb := N + 1) (x := ⟨⟨vA, vn, vc⟩, ⟨io, im, iA, il, ic⟩, ⟨jo, jm, jA, jl, jc⟩, ⟨eA, en, ec⟩, ⟨sA, sn, sc⟩, ⟨aA, an, ac⟩, ⟨nA, nn, nc⟩, ⟨pA, pn, pc⟩⟩) (op := yo) (nn := yn) (A := yA) (len := yl) (cap := yc) (by kernel_rfl) (by kernel_rfl) (by kernel_rfl) (by kernel_rfl) ⟨_, _, _, rfl⟩ ⟨_, _, _, rfl⟩ ⟨_, _, _, rfl⟩ ⟨_, _, _, rfl⟩ ⟨_, _, _, rfl⟩ ⟨_, _, _, rfl⟩ ⟨_, _, _, rfl⟩ ⟨_, _, _, rfl⟩ ⟨_, _, _, rfl⟩ ⟨_, _, _, rfl⟩ (by simp) rfl rfl Hbx4.out Hrow4.out (by omega) ⟨by omega, by omega⟩ ⟨by omega, by omega⟩ (by omega) ?_
          intro u ga gb w5 hrow5 hga hgb hbx5 hb5
          rw [sel_cons, sel_cons, sel_cons, sel_cons, sel_cons, sel_cons, sel_cons, sel_cons, sel_nil]
          generalize u 32 = u32
          generalize u 33 = u33
          generalize u 34 = u34
          generalize u 35 = u35
          generalize u 36 = u36
          generalize u 37 = u37
          generalize u 38 = u38
          generalize u 39 = u39
          clear u
          have hz5 := hb5.size
          have Hb5 := hide (Hb4.out.trans hb5)
          have HrmO := hide (Hrm4.out.below (hb5.mono (by omega)))
          have Hex5 := hide (Hex4.out.below (hb5.mono (by omega)))
          have Hbx5 := hide hbx5
          have Hrow5 := hide (row_both (s := ⟨some ⟨ga, 0, none⟩, 1, 1⟩) (u := ⟨some ⟨gb, 0, none⟩, 1, 1⟩) hrow5)
          have Hrm5 := hide (rm_both (HrmO.out.more (B' := w5.heap.size) (by omega)) (one_cmd (y := ⟨yo, yn, yA, yl, yc⟩) hga Hex5.out (by omega)) (one_cmd (y := ⟨yo, yn, yA, yl, yc⟩) hgb Hex5.out (by omega)))
          simp only at Hrow5 Hrm5
          clear hrow5 hga hgb hbx5 hb5 Hrm4 Hex4 Hbx4 Hrow4 Hb4
          obtain ⟨q0, q1, q2, q3, q4, q5, q6, q7, q8, q9, q10, q11⟩ := row12 (mV_box Hrow5.out)
          simp only at q0 q1 q2 q3 q4 q5 q6 q7 q8 q9 q10 q11
          go_simp
          go_wp2_with fail
          clear q0 q1 q2 q3 q4 q5 q6 q7 q8 q9 q10 q11
          refine (rmod_any w5.heap.size ⟨⟨vA, vn, vc⟩, ⟨io, im, iA, il, ic⟩, ⟨jo, jm, jA, jl, jc⟩, ⟨some ⟨ga, 0, none⟩, 1, 1⟩, ⟨some ⟨gb, 0, none⟩, 1, 1⟩, ⟨aA, an, ac⟩, ⟨nA, nn, nc⟩, ⟨pA, pn, pc⟩⟩ _ w5 (Nat.le_refl _) Hrm5.out).mono ?_
          rintro e w6 ⟨rfl, hb6⟩
          have Hrv5 := hide HrmO.out.2.1
          clear HrmO
          have hz6 := hb6.size
          have Hb6 := hide (Hb5.out.trans (hb6.mono (by omega)))
          have Hrm6 := hide (Hrm5.out.below (hb6.mono (by omega)))
          have Hrv6 := hide (Hrv5.out.below (hb6.mono (by omega)))
          have Hex6 := hide (Hex5.out.below (hb6.mono (by omega)))
          have Hrow6 := hide (Hrow5.out.of_block (hb6.block _ (by omega)))
          have Hbx6 := hide (Hbx5.out.below hb6 (by omega))
          clear hb6 Hb5 Hrm5 Hrv5 Hex5 Hrow5 Hbx5
          by_cases hc2 : modE { m with env := [⟨t, []⟩], sys := [⟨t, []⟩] } = 0
          case neg =>
            have hcb2 : (modE { m with env := [⟨t, []⟩], sys := [⟨t, []⟩] } != 0) = true := by simp [hc2]

            go_wp2_with fail
            refine (awake_any _).mono ?_
            rintro e y1 ⟨rfl, hby⟩
            go_wp2_with fail
            go_ret
            exact ⟨rfl, by rw [hN]; exact Hb6.out.trans (hby.mono (by omega))⟩
          case pos =>
            have hcb2 : (modE { m with env := [⟨t, []⟩], sys := [⟨t, []⟩] } != 0) = false := by simp [hc2]
            have Hc2 := hide hc2

            clear hc2
            obtain ⟨q0, _⟩ := row12 (mV_box Hrow6.out)
            simp only at q0
            go_wp2_with fail
            clear q0 hcb2
            refine (Dom.total_any vA vn vc B m.vars w6 Ho.out.1 (by omega) Hrv6.out).mono ?_
            rintro e w7 ⟨rfl, hb7⟩
            have hz7 := hb7.size
            have Hb7 := hide (Hb6.out.trans (hb7.mono (by omega)))
            have Hrm7 := hide (Hrm6.out.below (hb7.mono (by omega)))
            have Hrv7 := hide (Hrv6.out.below (hb7.mono (by omega)))
            have Hex7 := hide (Hex6.out.below (hb7.mono (by omega)))
            have Hrow7 := hide (Hrow6.out.of_block (hb7.block _ (by omega)))
            have Hbx7 := hide (Hbx6.out.below hb7 (by omega))
            clear hb7 Hb6 Hrm6 Hrv6 Hex6 Hrow6 Hbx6
            rw [Ht.out]
            have hwN : IntKind.u64.wrap (tt : Int) = (tt : Int) := by rw [IntKind.wrap_u64]; omega
            have hmod : ∀ z : Int, ∃ q : Nat, q < tt ∧ (IntKind.u64.wrap z).tmod (tt : Int) = (q : Int) := fun z => by
              have h0 : 0 ≤ IntKind.u64.wrap z := by rw [IntKind.wrap_u64]; omega
              have hp : (0 : Int) < (tt : Int) := by omega
              have h1 := Int.emod_nonneg (IntKind.u64.wrap z) (show (tt : Int) ≠ 0 by omega)
              have h2 := Int.emod_lt_of_pos (IntKind.u64.wrap z) hp
              refine ⟨((IntKind.u64.wrap z).tmod (tt : Int)).toNat, ?_, ?_⟩
              · rw [Int.tmod_eq_emod_of_nonneg h0]; omega
              · rw [Int.tmod_eq_emod_of_nonneg h0]; omega
            obtain ⟨q, hqn, hqe⟩ := hmod st0
            obtain ⟨r, hrn, hre⟩ := hmod pk0
            have hqw : IntKind.i64.wrap (q : Int) = (q : Int) := by rw [IntKind.wrap_i64]; omega
            have hrw : IntKind.i64.wrap (r : Int) = (r : Int) := by rw [IntKind.wrap_i64]; omega
            have hv0' : ¬ (tt : Int) = 0 := by omega
            clear hmod
            go_wp2_with fail
            clear hqe hqw
            have hBW : B ≤ w7.heap.size := by omega
            have Hq21 : Hid (∀ dd os, Calls Try.prog 10 #[.slice vA vn vc] (grow (redrawn w7 dd) os) fun e w'' => e = .returned (.int .i64 (tt : Int)) ∧ ∃ p : Regrown, w'' = grow (redrawn w7 p.d) p.os) := hide (fun dd os => by
              rw [← Ht.out]
              exact Calls.regrown_of (Dom.total_any vA vn vc B m.vars _ Ho.out.1 (Nat.le_trans hBW (below_regrown w7 dd os).size) (Hrv7.out.below ((below_regrown w7 dd os).mono hBW))))
            have Hq23 : Hid (∀ s e dd os, Calls Try.prog 13 #[.slice vA vn vc, .int .i64 s, .bool e] (grow (redrawn w7 dd) os) fun e' w'' => e' = .returned (.int .i64 (Dom.partL m.vars s e)) ∧ ∃ p : Regrown, w'' = grow (redrawn w7 p.d) p.os) := hide (fun s e dd os =>
              Calls.regrown_of (Dom.part_any vA vn vc B m.vars s e _ Ho.out.1 (Nat.le_trans hBW (below_regrown w7 dd os).size) (Hrv7.out.below ((below_regrown w7 dd os).mono hBW)) Ho.out.2.2.2))
            have C0 := cell_regrown (row12 (mV_box Hrow7.out)).1
            simp only at C0
            refine wp_region_quiet_below (by kernel_rfl) (by kernel_rfl) ?_
            repeat (go_big_quiet_step (first | (go_at_call 10; exact Hq21.out _ _) | (go_at_call 13; exact Hq23.out _ _ _ _)))
            refine wpQuiet_nil ?_
            intro w8 hw8
            obtain ⟨pp, hpp⟩ := hw8
            have hb8 : Below w7.heap.size w7 w8 := by rw [hpp]; exact below_regrown w7 pp.d pp.os
            clear hpp C0 Hq21 Hq23 hre hrw hwN hv0'
            have hz8 := hb8.size
            have Hb8 := hide (Hb7.out.trans (hb8.mono (by omega)))
            have Hrm8 := hide (Hrm7.out.below (hb8.mono (by omega)))
            have Hrv8 := hide (Hrv7.out.below (hb8.mono (by omega)))
            have Hex8 := hide (Hex7.out.below (hb8.mono (by omega)))
            have Hrow8 := hide (Hrow7.out.of_block (hb8.block _ (by omega)))
            have Hbx8 := hide (Hbx7.out.below hb8 (by omega))
            clear hb8 Hb7 Hrm7 Hrv7 Hex7 Hrow7 Hbx7
            have hM : Dom.mayL m.vars = 0 := ((modE_iff _).1 Hc2.out).1
            have hq0 : 0 ≤ (q : Int) ∧ (q : Int) < Dom.totL m.vars := ⟨by omega, by rw [Ht.out]; omega⟩
            have hr0 : 0 ≤ (r : Int) ∧ (r : Int) < Dom.totL m.vars := ⟨by omega, by rw [Ht.out]; omega⟩
            have hp0 := part_rng true hM hr0.1 hr0.2
            have Hla := hide (guards_env Hc2.out hq0.1 hq0.2)
            have Hlb := hide (guards_sys (p := Dom.partL m.vars (r : Int) true) Hc2.out hq0.1 hq0.2 hp0.1 hp0.2 (Dom.part_idem true hM hr0.1 hr0.2))
            clear hM hq0 hr0 hp0
            generalize hpk : Dom.partL m.vars (r : Int) true = pk at *
            clear hpk
            have hBW8 : w5.heap.size ≤ w8.heap.size := by omega
            have hNW : N < w8.heap.size := by omega
            have Hdr : Hid (Below w8.heap.size w8 w8.drew) := hide (Below.refl _ _).drew
            have HbxN := hide (mV_box Hrow8.out)
            go_wp2_with fail
            go_region_held3 (fun w' => w'.cell? ⟨N, 0, none⟩ = some (.slice vA vn vc) ∧ w'.cell? ⟨N, 1, none⟩ = some (.int .i64 io) ∧ w'.cell? ⟨N, 2, none⟩ = some (.int .i64 im) ∧ w'.cell? ⟨N, 3, none⟩ = some (.slice iA il ic) ∧ w'.cell? ⟨N, 4, none⟩ = some (.int .i64 jo) ∧ w'.cell? ⟨N, 5, none⟩ = some (.int .i64 jm) ∧ w'.cell? ⟨N, 6, none⟩ = some (.slice jA jl jc) ∧ w'.cell? ⟨N, 7, none⟩ = some (.slice (some ⟨ga, 0, none⟩) 1 1) ∧ w'.cell? ⟨N, 8, none⟩ = some (.slice (some ⟨gb, 0, none⟩) 1 1) ∧ w'.cell? ⟨N, 9, none⟩ = some (.slice aA an ac) ∧ w'.cell? ⟨N, 10, none⟩ = some (.slice nA nn nc) ∧ w'.cell? ⟨N, 11, none⟩ = some (.slice pA pn pc))
              (first | exact keep12 HbxN hNW (by assumption))
              (first
                | (go_at_call 14; refine (c_dV (x := ⟨⟨vA, vn, vc⟩, ⟨io, im, iA, il, ic⟩, ⟨jo, jm, jA, jl, jc⟩, ⟨some ⟨ga, 0, none⟩, 1, 1⟩, ⟨some ⟨gb, 0, none⟩, 1, 1⟩, ⟨aA, an, ac⟩, ⟨nA, nn, nc⟩, ⟨pA, pn, pc⟩⟩) hBW8 Hrm8 (by assumption)).mono ?_; rintro e va ⟨Oa, ca, rfl, hoa, hqa, hba⟩)
                | (go_at_call 15; refine (c_dY (x := ⟨⟨vA, vn, vc⟩, ⟨io, im, iA, il, ic⟩, ⟨jo, jm, jA, jl, jc⟩, ⟨some ⟨ga, 0, none⟩, 1, 1⟩, ⟨some ⟨gb, 0, none⟩, 1, 1⟩, ⟨aA, an, ac⟩, ⟨nA, nn, nc⟩, ⟨pA, pn, pc⟩⟩) hBW8 Hrm8 (by assumption)).mono ?_; rintro e vb ⟨Ob, cb, rfl, hob, hqb, hbb⟩))
            have hb9 := hbb.out
            have Hra9 : Hid (RI vb vb.heap.size Oa (envL { m with env := [⟨t, []⟩], sys := [⟨t, []⟩] } (q : Int)).length (envL { m with env := [⟨t, []⟩], sys := [⟨t, []⟩] } (q : Int))) := hide ((hoa.out.1.below hqb.out).more hqb.out.size)
            have Hrb9 : Hid (RI vb vb.heap.size Ob (sysL { m with env := [⟨t, []⟩], sys := [⟨t, []⟩] } (q : Int) pk).length (sysL { m with env := [⟨t, []⟩], sys := [⟨t, []⟩] } (q : Int) pk)) := hide hob.out.1
            have hlm : (envL { m with env := [⟨t, []⟩], sys := [⟨t, []⟩] } (q : Int)).length ≤ maxLen := hoa.out.2
            have hlm2 : (sysL { m with env := [⟨t, []⟩], sys := [⟨t, []⟩] } (q : Int) pk).length ≤ maxLen := hob.out.2
            obtain ⟨w9, rfl⟩ : ∃ w9, w9 = vb := ⟨_, rfl⟩
            clear hoa hob hqa hqb hba hbb Hdr HbxN Hrm8
            have hz9 := hb9.size
            have Hb9 := hide (Hb8.out.trans (hb9.mono (by omega)))
            have Hrv9 := hide (Hrv8.out.below (hb9.mono (by omega)))
            have Hex9 := hide (Hex8.out.below (hb9.mono (by omega)))
            have Hrow9 := hide (Hrow8.out.of_block (hb9.block _ (by omega)))
            have Hbx9 := hide (Hbx8.out.below hb9 (by omega))
            clear hb9 Hb8 Hrv8 Hex8 Hrow8 Hbx8
            skip
            generalize envL ⟨m.vars, m.ie, m.is, [⟨t, []⟩], [⟨t, []⟩], m.asm, m.ens, m.prio⟩ (q : Int) = la at *
            generalize sysL ⟨m.vars, m.ie, m.is, [⟨t, []⟩], [⟨t, []⟩], m.asm, m.ens, m.prio⟩ (q : Int) pk = lb at *
            unfold maxLen at hlm hlm2
            obtain ⟨q0, _⟩ := row12 (mV_box Hrow9.out)
            simp only at q0
            obtain ⟨f0, f1, f2⟩ := Hbx9.out
            obtain ⟨dg, hdg⟩ := Hex9.out
            have Hdg := hide hdg
            clear hdg
            go_wp2_with fail
            clear q0 f0 f1 f2
            refine (dtrue_any B vA vn vc m.vars dg yo yn yA yl yc t (q : Int) (q : Int) w9 Ho.out.1 Ho.out.2.1 Ho.out.2.2.1 (by omega) Hdg.out Hrv9.out Ho.out.2.2.2).mono ?_
            rintro e w10 ⟨rfl, hb10⟩
            clear Hdg
            have hz10 := hb10.size
            have Hb10 := hide (Hb9.out.trans (hb10.mono (by omega)))
            have Hrv10 := hide (Hrv9.out.below (hb10.mono (by omega)))
            have Hex10 := hide (Hex9.out.below (hb10.mono (by omega)))
            have Hrow10 := hide (Hrow9.out.of_block (hb10.block _ (by omega)))
            have Hbx10 := hide (Hbx9.out.below hb10 (by omega))
            have Hra10 := hide (Hra9.out.below hb10)
            have Hrb10 := hide (Hrb9.out.below hb10)
            clear Hra9 Hrb9
            clear hb10 Hb9 Hrv9 Hex9 Hrow9 Hbx9
            generalize trueE m.vars t (q : Int) (q : Int) = tv at *
            cases tv
            · have hla : la = [] := by rw [Hla.out]; simp
              subst hla
              simp only [List.length_nil]
              clear Hla hlm Hra10
              obtain ⟨q0, _⟩ := row12 (mV_box Hrow10.out)
              simp only at q0
              obtain ⟨f0, f1, f2⟩ := Hbx10.out
              obtain ⟨dg, hdg⟩ := Hex10.out
              have Hdg := hide hdg
              clear hdg
              go_wp2_with fail
              clear q0 f0 f1 f2
              refine (dtrue_any B vA vn vc m.vars dg yo yn yA yl yc t (q : Int) pk w10 Ho.out.1 Ho.out.2.1 Ho.out.2.2.1 (by omega) Hdg.out Hrv10.out Ho.out.2.2.2).mono ?_
              rintro e w11 ⟨rfl, hbn⟩
              clear Hdg
              have hz11 := hbn.size
              have Hb11 := hide (Hb10.out.trans (hbn.mono (by omega)))
              have Hrv11 := hide (Hrv10.out.below (hbn.mono (by omega)))
              have Hrow11 := hide (Hrow10.out.of_block (hbn.block _ (by omega)))
              have Hrb11 := hide (Hrb10.out.below (hbn.mono (by omega)))
              clear hbn Hb10 Hrv10 Hrow10 Hrb10 Hex10 Hbx10
              generalize trueE m.vars t (q : Int) pk = tv2 at *
              cases tv2
              · have hlb := Hlb.out.1 rfl
                subst hlb
                simp only [List.length_nil]
                go_wp2_with fail
                refine (awake_any _).mono ?_
                rintro e y1 ⟨rfl, hby⟩
                go_wp2_with fail
                go_ret
                exact ⟨rfl, by rw [hN]; exact Hb11.out.trans (hby.mono (by omega))⟩
              · obtain ⟨z, hlb, e1, e2⟩ := Hlb.out.2 rfl
                subst hlb
                simp only [List.length_cons, List.length_nil, Nat.zero_add] at Hrb11 ⊢
                obtain ⟨bb, bo, zz, eOb, hbb2, hzz, cz⟩ := Hrb11.out.at_ (k := 0) (by omega)
                simp at hzz
                subst hzz
                subst eOb
                rw [Nat.add_zero] at cz
                have Hlb2 := hide e1
                have Hlb3 := hide e2
                clear e1 e2
                go_wp2_with fail
                have hBWw11 : B ≤ w11.heap.size := by omega
                have Hq23 : Hid (∀ s e dd os, Calls Try.prog 13 #[.slice vA vn vc, .int .i64 s, .bool e] (grow (redrawn w11 dd) os) fun e' w'' => e' = .returned (.int .i64 (Dom.partL m.vars s e)) ∧ ∃ p : Regrown, w'' = grow (redrawn w11 p.d) p.os) := hide (fun s e dd os =>
                  Calls.regrown_of (Dom.part_any vA vn vc B m.vars s e _ Ho.out.1 (Nat.le_trans hBWw11 (below_regrown w11 dd os).size) (Hrv11.out.below ((below_regrown w11 dd os).mono hBWw11)) Ho.out.2.2.2))
                have Hq10 : Hid (∀ dd os, Calls Try.prog 11 #[] (grow (redrawn w11 dd) os) fun e' w'' => e' = .returned (.bool true) ∧ ∃ p : Regrown, w'' = grow (redrawn w11 p.d) p.os) := hide (fun dd os => Calls.regrown_of (awake_any _))
                have C0 := cell_regrown (row12 (mV_box Hrow11.out)).1
                simp only at C0
                have C1 := cell_regrown cz
                have g1 : (Dom.partL m.vars z true == pk) = true := by simp [Hlb2.out]
                have g2 : (Dom.partL m.vars z false == Dom.partL m.vars (q : Int) false) = true := by simp [Hlb3.out]
                refine wp_region_quiet_below (by kernel_rfl) (by kernel_rfl) ?_
                repeat (go_big_quiet_step (first | (go_at_call 11; exact Hq10.out _ _) | (go_at_call 13; exact Hq23.out _ _ _ _)))
                refine wpQuiet_nil ?_
                intro wf hwf
                obtain ⟨pf, hpf⟩ := hwf
                have hbf : Below w11.heap.size w11 wf := by rw [hpf]; exact below_regrown w11 pf.d pf.os
                clear hpf C0 C1
                go_wp2_with fail
                go_ret
                exact ⟨rfl, by rw [hN]; exact Hb11.out.trans (hbf.mono (by omega))⟩
            · have hla : la = [Dom.partL m.vars (q : Int) true] := by rw [Hla.out]; simp
              subst hla
              simp only [List.length_cons, List.length_nil, Nat.zero_add] at Hra10 ⊢
              obtain ⟨ab, ao, az, eOa, hab, haz, cza⟩ := Hra10.out.at_ (k := 0) (by omega)
              simp at haz
              subst eOa
              rw [Nat.add_zero, ← haz] at cza
              clear haz
              go_wp2_with fail
              have hBWw10 : B ≤ w10.heap.size := by omega
              have Hq23 : Hid (∀ s e dd os, Calls Try.prog 13 #[.slice vA vn vc, .int .i64 s, .bool e] (grow (redrawn w10 dd) os) fun e' w'' => e' = .returned (.int .i64 (Dom.partL m.vars s e)) ∧ ∃ p : Regrown, w'' = grow (redrawn w10 p.d) p.os) := hide (fun s e dd os =>
                Calls.regrown_of (Dom.part_any vA vn vc B m.vars s e _ Ho.out.1 (Nat.le_trans hBWw10 (below_regrown w10 dd os).size) (Hrv10.out.below ((below_regrown w10 dd os).mono hBWw10)) Ho.out.2.2.2))
              have Hq10 : Hid (∀ dd os, Calls Try.prog 11 #[] (grow (redrawn w10 dd) os) fun e' w'' => e' = .returned (.bool true) ∧ ∃ p : Regrown, w'' = grow (redrawn w10 p.d) p.os) := hide (fun dd os => Calls.regrown_of (awake_any _))
              have C0 := cell_regrown (row12 (mV_box Hrow10.out)).1
              simp only at C0
              have C1 := cell_regrown cza
              have g1 : (Dom.partL m.vars (q : Int) true != Dom.partL m.vars (q : Int) true) = false := by simp
              refine wp_region_quiet_below (by kernel_rfl) (by kernel_rfl) ?_
              repeat (go_big_quiet_step (first | (go_at_call 11; exact Hq10.out _ _) | (go_at_call 13; exact Hq23.out _ _ _ _)))
              refine wpQuiet_nil ?_
              intro w11 hw11
              obtain ⟨pf, hpf⟩ := hw11
              have hb11 : Below w10.heap.size w10 w11 := by rw [hpf]; exact below_regrown w10 pf.d pf.os
              clear hpf C0 C1 Hq23 Hq10 cza g1 Hra10
              have Hrb11 := hide (Hrb10.out.below (hb11.mono (by omega)))
              clear Hrb10
              have hz11 := hb11.size
              have Hb11 := hide (Hb10.out.trans (hb11.mono (by omega)))
              have Hrv11 := hide (Hrv10.out.below (hb11.mono (by omega)))
              have Hex11 := hide (Hex10.out.below (hb11.mono (by omega)))
              have Hrow11 := hide (Hrow10.out.of_block (hb11.block _ (by omega)))
              have Hbx11 := hide (Hbx10.out.below hb11 (by omega))
              clear hb11 Hb10 Hrv10 Hex10 Hrow10 Hbx10
              obtain ⟨q0, _⟩ := row12 (mV_box Hrow11.out)
              simp only at q0
              obtain ⟨f0, f1, f2⟩ := Hbx11.out
              obtain ⟨dg, hdg⟩ := Hex11.out
              have Hdg := hide hdg
              clear hdg
              go_wp2_with fail
              clear q0 f0 f1 f2
              refine (dtrue_any B vA vn vc m.vars dg yo yn yA yl yc t (q : Int) pk w11 Ho.out.1 Ho.out.2.1 Ho.out.2.2.1 (by omega) Hdg.out Hrv11.out Ho.out.2.2.2).mono ?_
              rintro e w12 ⟨rfl, hbn⟩
              clear Hdg
              have hz12 := hbn.size
              have Hb12 := hide (Hb11.out.trans (hbn.mono (by omega)))
              have Hrv12 := hide (Hrv11.out.below (hbn.mono (by omega)))
              have Hrow12 := hide (Hrow11.out.of_block (hbn.block _ (by omega)))
              have Hrb12 := hide (Hrb11.out.below (hbn.mono (by omega)))
              clear hbn Hb11 Hrv11 Hrow11 Hrb11 Hex11 Hbx11
              generalize trueE m.vars t (q : Int) pk = tv2 at *
              cases tv2
              · have hlb := Hlb.out.1 rfl
                subst hlb
                simp only [List.length_nil]
                go_wp2_with fail
                refine (awake_any _).mono ?_
                rintro e y1 ⟨rfl, hby⟩
                go_wp2_with fail
                go_ret
                exact ⟨rfl, by rw [hN]; exact Hb12.out.trans (hby.mono (by omega))⟩
              · obtain ⟨z, hlb, e1, e2⟩ := Hlb.out.2 rfl
                subst hlb
                simp only [List.length_cons, List.length_nil, Nat.zero_add] at Hrb12 ⊢
                obtain ⟨bb, bo, zz, eOb, hbb2, hzz, cz⟩ := Hrb12.out.at_ (k := 0) (by omega)
                simp at hzz
                subst hzz
                subst eOb
                rw [Nat.add_zero] at cz
                have Hlb2 := hide e1
                have Hlb3 := hide e2
                clear e1 e2
                go_wp2_with fail
                have hBWw12 : B ≤ w12.heap.size := by omega
                have Hq23 : Hid (∀ s e dd os, Calls Try.prog 13 #[.slice vA vn vc, .int .i64 s, .bool e] (grow (redrawn w12 dd) os) fun e' w'' => e' = .returned (.int .i64 (Dom.partL m.vars s e)) ∧ ∃ p : Regrown, w'' = grow (redrawn w12 p.d) p.os) := hide (fun s e dd os =>
                  Calls.regrown_of (Dom.part_any vA vn vc B m.vars s e _ Ho.out.1 (Nat.le_trans hBWw12 (below_regrown w12 dd os).size) (Hrv12.out.below ((below_regrown w12 dd os).mono hBWw12)) Ho.out.2.2.2))
                have Hq10 : Hid (∀ dd os, Calls Try.prog 11 #[] (grow (redrawn w12 dd) os) fun e' w'' => e' = .returned (.bool true) ∧ ∃ p : Regrown, w'' = grow (redrawn w12 p.d) p.os) := hide (fun dd os => Calls.regrown_of (awake_any _))
                have C0 := cell_regrown (row12 (mV_box Hrow12.out)).1
                simp only at C0
                have C1 := cell_regrown cz
                have g1 : (Dom.partL m.vars z true == pk) = true := by simp [Hlb2.out]
                have g2 : (Dom.partL m.vars z false == Dom.partL m.vars (q : Int) false) = true := by simp [Hlb3.out]
                refine wp_region_quiet_below (by kernel_rfl) (by kernel_rfl) ?_
                repeat (go_big_quiet_step (first | (go_at_call 11; exact Hq10.out _ _) | (go_at_call 13; exact Hq23.out _ _ _ _)))
                refine wpQuiet_nil ?_
                intro wf hwf
                obtain ⟨pf, hpf⟩ := hwf
                have hbf : Below w12.heap.size w12 wf := by rw [hpf]; exact below_regrown w12 pf.d pf.os
                clear hpf C0 C1
                go_wp2_with fail
                go_ret
                exact ⟨rfl, by rw [hN]; exact Hb12.out.trans (hbf.mono (by omega))⟩
end Go.Proofs.Ytohegmnfmomjaaa
