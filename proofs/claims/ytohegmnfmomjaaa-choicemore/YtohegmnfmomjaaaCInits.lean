/- The walk of ChoiceInits. -/
import Derived.Test.YtohegmnfmomjaaaCInitsA
import Derived.Test.YtohegmnfmomjaaaCForms
set_option maxRecDepth 100000
namespace Go.Proofs.Ytohegmnfmomjaaa
open Go.RowKit Ex Go.WideMaps Go.Maps
set_option linter.unusedSimpArgs false
set_option linter.unusedVariables false

theorem one_no {D : DataW Unit} {xs : List Int} {k c : Int} (h : OneIs D xs) (hk : k ∉ xs) (hat : D.atKey (.int .i64 k) (.lit (.int .i64 0)) = .lit (.int .i64 c)) : c = 0 := by
  rw [h k, if_neg hk] at hat
  injection hat with hat; injection hat with _ hat; exact hat.symm
theorem one_yes {D : DataW Unit} {xs : List Int} {k c : Int} (h : OneIs D xs) (hk : k ∈ xs) (hat : D.atKey (.int .i64 k) (.lit (.int .i64 0)) = .lit (.int .i64 c)) : c = 1 := by
  rw [h k, if_pos hk] at hat
  injection hat with hat; injection hat with _ hat; exact hat.symm
theorem one_noB {D : DataW Unit} {xs : List Int} {k c : Int} (h : OneIs D xs) (hk : k ∉ xs) (hat : D.atKey (.int .i64 k) (.lit (.int .i64 0)) = .lit (.int .i64 c)) : (c != 0) = false := by simp [one_no h hk hat]
theorem one_is {D : DataW Unit} {xs : List Int} {k c : Int} {b : Bool} (h : OneIs D xs) (hk : k ∈ xs ↔ b = true) (hat : D.atKey (.int .i64 k) (.lit (.int .i64 0)) = .lit (.int .i64 c)) : (c == 1) = b := by
  cases b with
  | true => simp [one_yes h (hk.2 rfl) hat]
  | false => simp [one_no h (fun h2 => by have := hk.1 h2; cases this) hat]
set_option maxHeartbeats 8000000 in
theorem cinits_any (B : Nat) (x : M8) (m : MT) (w : World) (hB : B ≤ w.heap.size) (hrm : RM w B x m) :
    Calls Try.prog 7 #[.agg x.cells] w fun e w' => e = .returned (.bool true) ∧ Below w.heap.size w w' := by
  have hbx := (Below.refl w.heap.size w).alloc (Nat.le_refl _) (.cells x.cells 28)
  have Hrm0 := hide (hrm.below (hbx.mono hB))
  have Hbx0 := hide (boxM_new w x)
  have Hb0 := hide hbx
  have hz0 : w.heap.size + 1 ≤ (w.alloc (.cells x.cells 28)).heap.size := by simp
  have Ho := hide hrm.1
  obtain ⟨⟨vA, vn, vc⟩, ⟨io, im, iA, il, ic⟩, ⟨jo, jm, jA, jl, jc⟩, ⟨eA, en, ec⟩, ⟨sA, sn, sc⟩, ⟨aA, an, ac⟩, ⟨nA, nn, nc⟩, ⟨pA, pn, pc⟩⟩ := x
  clear hrm hbx
  simp only [M8.cells, SL.v] at *
  obtain ⟨q0, q1, q2, q3, q4, q5, q6, q7, q8, q9, q10, q11⟩ := row12 Hbx0.out
  simp only at q0 q1 q2 q3 q4 q5 q6 q7 q8 q9 q10 q11
  go_enter Try.func7, Try.ntmps7
  go_wp2_with fail
  clear q0 q1 q2 q3 q4 q5 q6 q7 q8 q9 q10 q11
  generalize w.alloc (.cells #[.slice vA vn vc, .int .i64 io, .int .i64 im, .slice iA il ic, .int .i64 jo, .int .i64 jm, .slice jA jl jc, .slice eA en ec, .slice sA sn sc, .slice aA an ac, .slice nA nn nc, .slice pA pn pc] 28) = w0 at *
  generalize hN : w.heap.size = N at *
  refine (hv6_any B ⟨⟨vA, vn, vc⟩, ⟨io, im, iA, il, ic⟩, ⟨jo, jm, jA, jl, jc⟩, ⟨eA, en, ec⟩, ⟨sA, sn, sc⟩, ⟨aA, an, ac⟩, ⟨nA, nn, nc⟩, ⟨pA, pn, pc⟩⟩ m w0 (by omega) Hrm0.out).mono ?_
  rintro e w1 ⟨rfl, hb1⟩
  have hz1 := hb1.size
  have Hb1 := hide (Hb0.out.trans (hb1.mono (by omega)))
  have Hrm1 := hide (Hrm0.out.below (hb1.mono (by omega)))
  have Hbx1 := hide (Hbx0.out.below hb1 (by omega))
  clear hb1 Hb0 Hrm0 Hbx0
  generalize hv6 m = hv at *
  by_cases hh : 0 < hv
  case pos =>
    have hhb : decide (0 < hv) = true := by simp [hh]
    go_wp2_with fail
    refine (awake_any _).mono ?_
    rintro e y1 ⟨rfl, hby⟩
    go_wp2_with fail
    go_ret
    exact ⟨rfl, by rw [hN]; exact Hb1.out.trans (hby.mono (by omega))⟩
  case neg =>
    have hhb : decide (0 < hv) = false := by simp; omega
    obtain ⟨q0, q1, q2, q3, q4, q5, q6, q7, q8, q9, q10, q11⟩ := row12 Hbx1.out
    simp only at q0 q1 q2 q3 q4 q5 q6 q7 q8 q9 q10 q11
    go_wp2_with fail
    clear q0 q1 q2 q3 q4 q5 q6 q7 q8 q9 q10 q11
    refine (rmod_any B ⟨⟨vA, vn, vc⟩, ⟨io, im, iA, il, ic⟩, ⟨jo, jm, jA, jl, jc⟩, ⟨eA, en, ec⟩, ⟨sA, sn, sc⟩, ⟨aA, an, ac⟩, ⟨nA, nn, nc⟩, ⟨pA, pn, pc⟩⟩ m w1 (by omega) Hrm1.out).mono ?_
    rintro e w2 ⟨rfl, hb2⟩
    have hz2 := hb2.size
    have Hb2 := hide (Hb1.out.trans (hb2.mono (by omega)))
    have Hrm2 := hide (Hrm1.out.below (hb2.mono (by omega)))
    have Hbx2 := hide (Hbx1.out.below hb2 (by omega))
    clear hb2 Hb1 Hrm1 Hbx1
    by_cases hc : modE m = 0
    case neg =>
      have hcb : (modE m != 0) = true := by simp [hc]
      go_wp2_with fail
      refine (awake_any _).mono ?_
      rintro e y1 ⟨rfl, hby⟩
      go_wp2_with fail
      go_ret
      exact ⟨rfl, by rw [hN]; exact Hb2.out.trans (hby.mono (by omega))⟩
    case pos =>
      have hcb : (modE m != 0) = false := by simp [hc]
      have Hc := hide hc
      clear hc
      have hmm := @run_makeMap Try.prog
      have hbm := (Below.refl w2.heap.size w2).alloc (Nat.le_refl _) (.map #[] 0)
      have hzm : (w2.alloc (.map #[] 0)).heap.size = w2.heap.size + 1 := by simp
      have Hb3 := hide (Hb2.out.trans (hbm.mono (by omega)))
      have Hrm3 := hide (Hrm2.out.below (hbm.mono (by omega)))
      have Hbx3 := hide (Hbx2.out.below hbm (by omega))
      have Hmap3 := hide (World.ownsMap_made (H := Unit) w2 Try.prog 3 (plainElem Try.prog 3))
      obtain ⟨q0, q1, q2, q3, q4, q5, q6, q7, q8, q9, q10, q11⟩ := row12 Hbx3.out
      simp only at q0 q1 q2 q3 q4 q5 q6 q7 q8 q9 q10 q11
      clear hbm Hb2 Hrm2 Hbx2
      go_wp2_with fail
      clear q0 q1 q2 q3 q4 q5 q6 q7 q8 q9 q10 q11 hmm
      generalize w2.alloc (.map #[] 0) = w3 at *
      generalize hG : w2.heap.size = G at *
      have hNG : N < G := by omega
      have hBG : B ≤ G := by omega
      clear hG
      refine (dinitE_any B ⟨⟨vA, vn, vc⟩, ⟨io, im, iA, il, ic⟩, ⟨jo, jm, jA, jl, jc⟩, ⟨eA, en, ec⟩, ⟨sA, sn, sc⟩, ⟨aA, an, ac⟩, ⟨nA, nn, nc⟩, ⟨pA, pn, pc⟩⟩ m w3 (by omega) Hrm3.out).mono ?_
      intro e w4 hp
      obtain ⟨O4, np, c4, rfl, p2, p3, p4⟩ := hp
      have hz4 := p4.size
      have Hb4 := hide (Hb3.out.trans (p4.mono (by omega)))
      have Hrm4 := hide (Hrm3.out.below (p4.mono (by omega)))
      have Hbx4 := hide (Hbx3.out.below p4 (by omega))
      have Hmap4 := hide (onl_map Hmap3.out p4)
      have Hps := hide (rif_own p2)
      have hnp : np ≤ 512 := by rw [← p3]; exact initE_len m
      clear p2 p4 Hb3 Hrm3 Hbx3 Hmap3
      go_wp2_with fail
      go_loopw [24] (fun i wr => ∃ (k n : Nat) (D : DataW Unit), k ≤ np ∧ i = .int .i64 k ∧ n ≤ k * 512 ∧ wr.ownsMap Try.prog 3 (plainElem Try.prog 3) G n D ∧ Hid (OneIs D (marksL m k)) ∧ Onl G w4 wr) (fun i _ => np - (intOf i).toNat)
      case atStart => exact ⟨0, 0, .map [], by omega, rfl, by omega, Hmap4.out, hide OneIs.start, Onl.refl _ _⟩
      case round =>
        obtain ⟨k, n, D, hk, rfl, hn, hmap, Hone, hon⟩ := hrel
        have Hmap := hide hmap
        have Hon := hide hon
        have hzr := hon.size
        clear hmap hon
        have hbG := Hon.out.below (B := G) (Nat.le_refl _) (by omega)
        have Hbr := hide (Hb4.out.trans (hbG.mono (show N ≤ G by omega)))
        have Hrmr := hide (Hrm4.out.below (hbG.mono hBG))
        have Hbxr := hide (Hbx4.out.below hbG hNG)
        clear hbG
        by_cases hlt : k < np
        · have hlt' : ((k : Int) < (np : Int)) := by omega
          obtain ⟨pb, po, p, ePs, hpb, hpk, cp⟩ := (Hps.out.onl Hon.out (by omega)).at_ hlt
          subst ePs
          have hpin : p ∈ initEnvL m := List.mem_of_getElem? hpk
          have hpp := (initE_pick Hc.out hpin).1
          have hpb1 : (Dom.partL m.vars p true != p) = false := by simp [hpp]
          have Hpk := hide hpk
          clear hpk
          obtain ⟨q0, _⟩ := row12 Hbxr.out
          simp only at q0
          go_wp2_with fail
          clear q0 cp
          refine (Dom.part_any vA vn vc B m.vars p true wr Ho.out.1 (by omega) Hrmr.out.2.1 Ho.out.2.2.2).mono ?_
          rintro e w5 ⟨rfl, hb5⟩
          have hz5 := hb5.size
          have Hb5 := hide (Hbr.out.trans (hb5.mono (by omega)))
          have Hrm5 := hide (Hrmr.out.below (hb5.mono (by omega)))
          have Hbx5 := hide (Hbxr.out.below hb5 (by omega))
          have Hmap5 := hide (onl_map Hmap.out hb5)
          have Hon5 := hide (Hon.out.trans (below_onl hb5))
          clear hb5 Hbr Hrmr Hbxr Hmap Hon
          obtain ⟨q0, q1, q2, q3, q4, q5, q6, q7, q8, q9, q10, q11⟩ := row12 Hbx5.out
          simp only at q0 q1 q2 q3 q4 q5 q6 q7 q8 q9 q10 q11
          go_wp2_with fail
          clear q0 q1 q2 q3 q4 q5 q6 q7 q8 q9 q10 q11 hpp hpb1
          refine (dinitS_any B ⟨⟨vA, vn, vc⟩, ⟨io, im, iA, il, ic⟩, ⟨jo, jm, jA, jl, jc⟩, ⟨eA, en, ec⟩, ⟨sA, sn, sc⟩, ⟨aA, an, ac⟩, ⟨nA, nn, nc⟩, ⟨pA, pn, pc⟩⟩ m p w5 (by omega) Hrm5.out).mono ?_
          intro e w6 hp
          obtain ⟨O6, ns, c6, rfl, s2, s3, s4⟩ := hp
          have hz6 := s4.size
          have Hb6 := hide (Hb5.out.trans (s4.mono (by omega)))
          have Hrm6 := hide (Hrm5.out.below (s4.mono (by omega)))
          have Hbx6 := hide (Hbx5.out.below s4 (by omega))
          have Hmap6 := hide (onl_map Hmap5.out s4)
          have Hon6 := hide (Hon5.out.trans (below_onl s4))
          have Hss := hide (rif_own s2)
          have hns : ns ≤ 512 := by rw [← s3]; exact initS_len m p
          clear s2 s4 Hb5 Hrm5 Hbx5 Hmap5 Hon5
          go_wp2_with fail
          go_loopw [38] (fun i wr => ∃ (j n : Nat) (D : DataW Unit), j ≤ ns ∧ i = .int .i64 j ∧ n ≤ k * 512 + j ∧ wr.ownsMap Try.prog 3 (plainElem Try.prog 3) G n D ∧ Hid (OneIs D (marksL m k ++ (initSysL m p).take j)) ∧ Onl G w6 wr) (fun i _ => ns - (intOf i).toNat)
          case atStart => exact ⟨0, n, D, by omega, rfl, by omega, Hmap6.out, hide (by rw [List.take_zero, List.append_nil]; exact Hone.out), Onl.refl _ _⟩
          case round =>
            obtain ⟨j, n7, D7, hj, rfl, hn7, hmap, Hone7, hon⟩ := hrel
            have Hmap7 := hide hmap
            have Hon7 := hide hon
            have hz7 := hon.size
            clear hmap hon
            have hbG := Hon7.out.below (B := G) (Nat.le_refl _) (by omega)
            have Hrm7 := hide (Hrm6.out.below (hbG.mono hBG))
            have Hbx7 := hide (Hbx6.out.below hbG hNG)
            clear hbG
            by_cases hlt2 : j < ns
            · have hlt2' : ((j : Int) < (ns : Int)) := by omega
              obtain ⟨sb, so, s, eSs, hsb, hsj, cs⟩ := (Hss.out.onl Hon7.out (by omega)).at_ hlt2
              subst eSs
              have hsin : s ∈ initSysL m p := List.mem_of_getElem? hsj
              have hsp := inits_part Hc.out hpin hsin
              have hspb : (Dom.partL m.vars s true != p) = false := by simp [hsp]
              have Hnew := hide (inits_new Hc.out Hpk.out hsj)
              have Htk : Hid ((initSysL m p).take (j + 1) = (initSysL m p).take j ++ [s]) := hide (by rw [List.take_add_one, hsj]; rfl)
              have hsr := ((initS_mem Hc.out (initE_pick Hc.out hpin).2).1 hsin).1
              have ht512 := (Dom.totL_bd m.vars).2
              have Hkey : Hid (keyOf Try.prog 3 (.int .i64 s) = some (.int .i64 s)) := hide (keyOf_int_mk Try.underlying3 (WalkArith.wf_i64 (by omega)))
              clear hsj hsin hsp hsr ht512
              obtain ⟨q0, _⟩ := row12 Hbx7.out
              simp only at q0
              go_wp2_with (at_lookup; refine wpList_lookup_own_int _ rfl _ _ 42 rfl 3 3 .i64 law3 Try.underlying42 Try.underlying3 (Dom.zero3 _) G n7 D7 rfl Hmap7.out _ _ rfl Hkey.out ?_; intro c hat hwc; have hc0 := one_noB Hone7.out Hnew.out hat; clear hat hwc)
              clear q0 cs
              refine (Dom.part_any vA vn vc B m.vars s true wr Ho.out.1 (by omega) Hrm7.out.2.1 Ho.out.2.2.2).mono ?_
              rintro e w8 ⟨rfl, hb8⟩
              have hz8 := hb8.size
              have Hmap8 := hide (onl_map Hmap7.out hb8)
              have Hon8 := hide (Hon7.out.trans (below_onl hb8))
              clear hb8 Hmap7 Hon7 Hrm7 Hbx7
              go_wp2_with (at_mapUpdate; refine wpList_mapUpdate_own _ rfl _ _ _ 42 rfl 3 3 law3 Try.underlying42 _ G n7 D7 rfl Hmap8.out (by unfold maxLen; omega) _ _ _ rfl rfl Hkey.out _ [] (plainElem_int Try.underlying3 (WalkArith.wf_i64 (by omega))) ?_; intro w9 hown9 hg9)
              have Hon9 := hide (Hon8.out.trans (grown_onl hg9))
              have Hone9 := hide (Hone7.out.put (Hmap8.out.isMap) s)
              have Hown9 := hide hown9
              clear hown9 hg9
              go_wp2_with fail
              go_roundw
              case rel => exact ⟨j + 1, n7 + 1, _, by omega, by go_num, by omega, Hown9.out, hide (by rw [Htk.out, ← List.append_assoc]; exact Hone9.out), Hon9.out⟩
              case measure => simp [intOf]; omega
            · have hlt2' : ¬ ((j : Int) < (ns : Int)) := by omega
              obtain rfl : j = ns := by omega
              go_wp2_with fail
              go_roundw
              case rel => exact ⟨k + 1, n7, D7, by omega, by go_num, by omega, Hmap7.out, hide (by rw [marks_snoc Hpk.out]; have h := Hone7.out; rw [← s3, List.take_length] at h; exact h), Hon6.out.trans Hon7.out⟩
              case measure => simp [intOf]; omega
        · have hlt' : ¬ ((k : Int) < (np : Int)) := by omega
          obtain rfl : k = np := by omega
          have Hone5 : Hid (OneIs D ((initEnvL m).flatMap (initSysL m))) := hide (by have h := Hone.out; unfold marksL at h; rw [← p3, List.take_length] at h; exact h)
          obtain ⟨tt, ht, ht512⟩ : ∃ t : Nat, Dom.totL m.vars = (t : Int) ∧ t ≤ 512 := ⟨totN m, by unfold totN; have := (Dom.totL_bd m.vars).1; omega, by unfold totN; have := (Dom.totL_bd m.vars).2; omega⟩
          obtain ⟨q0, _⟩ := row12 Hbxr.out
          simp only at q0
          go_wp2_with fail
          clear q0
          refine (Dom.rtotal_any vA vn vc B m.vars wr Ho.out.1 Ho.out.2.1 Ho.out.2.2.1 (by omega) Hrmr.out.2.1 Ho.out.2.2.2).mono ?_
          rintro e w5 ⟨rfl, hb5⟩
          have hz5 := hb5.size
          have Hb5 := hide (Hbr.out.trans (hb5.mono (by omega)))
          have Hrm5 := hide (Hrmr.out.below (hb5.mono (by omega)))
          have Hbx5 := hide (Hbxr.out.below hb5 (by omega))
          have Hmap5 := hide (onl_map Hmap.out hb5)
          clear hb5 Hbr Hrmr Hbxr Hmap Hon
          have Hit : Hid (∀ s : Nat, s < tt → ((s : Int) ∈ (initEnvL m).flatMap (initSysL m) ↔ (trueE m.vars m.ie (Dom.partL m.vars (s : Int) true) (Dom.partL m.vars (s : Int) true) && trueE m.vars m.is (s : Int) (s : Int)) = true)) := hide (fun s hs => by rw [Bool.and_eq_true]; exact inits_all Hc.out (by omega) (by rw [ht]; omega))
          rw [ht]
          clear ht
          go_wp2_with fail
          go_loopw [61] (fun i wr => ∃ (s : Nat), s ≤ tt ∧ i = .int .i64 s ∧ Below w5.heap.size w5 wr) (fun i _ => tt - (intOf i).toNat)
          case atStart => exact ⟨0, by omega, rfl, Below.refl _ _⟩
          case round =>
            obtain ⟨s, hs, rfl, hb⟩ := hrel
            have hzs := hb.size
            have Hbs := hide (Hb5.out.trans (hb.mono (by omega)))
            have Hrms := hide (Hrm5.out.below (hb.mono (by omega)))
            have Hbxs := hide (Hbx5.out.below hb (by omega))
            have Hmaps := hide (onl_map Hmap5.out hb)
            have Hbw := hide hb
            clear hb
            by_cases hlt3 : s < tt
            · have hlt3' : ((s : Int) < (tt : Int)) := by omega
              have Hits := hide (Hit.out s hlt3)
              obtain ⟨q0, _⟩ := row12 Hbxs.out
              simp only at q0
              go_wp2_with fail
              clear q0
              refine (Dom.rpart_any vA vn vc B m.vars (s : Int) true wr Ho.out.1 Ho.out.2.1 Ho.out.2.2.1 (by omega) Hrms.out.2.1 Ho.out.2.2.2).mono ?_
              rintro e w6 ⟨rfl, hb6⟩
              have hz6 := hb6.size
              have Hbw6 := hide (Hbw.out.trans (hb6.mono (by omega)))
              have Hrm6 := hide (Hrms.out.below (hb6.mono (by omega)))
              have Hbx6 := hide (Hbxs.out.below hb6 (by omega))
              have Hmap6 := hide (onl_map Hmaps.out hb6)
              clear hb6 Hbw Hrms Hbxs Hmaps Hbs
              generalize Dom.partL m.vars (s : Int) true = pp at *
              obtain ⟨dg, hdg⟩ := Hrm6.out.2.2.1
              simp only at hdg
              obtain ⟨q0, q1, q2, q3, q4, q5, q6, q7, q8, q9, q10, q11⟩ := row12 Hbx6.out
              simp only at q0 q1 q2 q3 q4 q5 q6 q7 q8 q9 q10 q11
              go_wp2_with fail
              clear q0 q1 q2 q3 q4 q5 q6 q7 q8 q9 q10 q11
              refine (dtrue_any B vA vn vc m.vars dg io im iA il ic m.ie pp pp w6 Ho.out.1 Ho.out.2.1 Ho.out.2.2.1 (by omega) hdg Hrm6.out.2.1 Ho.out.2.2.2).mono ?_
              rintro e w7 ⟨rfl, hb7⟩
              have hz7 := hb7.size
              have Hbw7 := hide (Hbw6.out.trans (hb7.mono (by omega)))
              have Hrm7 := hide (Hrm6.out.below (hb7.mono (by omega)))
              have Hbx7 := hide (Hbx6.out.below hb7 (by omega))
              have Hmap7 := hide (onl_map Hmap6.out hb7)
              clear hb7 hdg Hbw6 Hrm6 Hbx6 Hmap6
              have Hkey : Hid (keyOf Try.prog 3 (.int .i64 (s : Int)) = some (.int .i64 (s : Int))) := hide (keyOf_int_mk Try.underlying3 (WalkArith.wf_i64 (by omega)))
              generalize htr : trueE m.vars m.ie pp pp = tr at *
              clear htr
              cases tr
              · rw [Bool.false_and] at Hits
                go_wp2_with (at_lookup; refine wpList_lookup_own_int _ rfl _ _ 42 rfl 3 3 .i64 law3 Try.underlying42 Try.underlying3 (Dom.zero3 _) G n D rfl Hmap7.out _ _ rfl Hkey.out ?_; intro c hat hwc; have hc0 := one_is Hone5.out Hits.out hat; clear hat hwc)
                go_roundw
                case rel => exact ⟨s + 1, by omega, by go_num, Hbw7.out⟩
                case measure => simp [intOf]; omega
              · rw [Bool.true_and] at Hits
                obtain ⟨dg, hdg⟩ := Hrm7.out.2.2.2.1
                simp only at hdg
                obtain ⟨q0, q1, q2, q3, q4, q5, q6, q7, q8, q9, q10, q11⟩ := row12 Hbx7.out
                simp only at q0 q1 q2 q3 q4 q5 q6 q7 q8 q9 q10 q11
                go_wp2_with fail
                clear q0 q1 q2 q3 q4 q5 q6 q7 q8 q9 q10 q11
                refine (dtrue_any B vA vn vc m.vars dg jo jm jA jl jc m.is (s : Int) (s : Int) w7 Ho.out.1 Ho.out.2.1 Ho.out.2.2.1 (by omega) hdg Hrm7.out.2.1 Ho.out.2.2.2).mono ?_
                rintro e w8 ⟨rfl, hb8⟩
                have hz8 := hb8.size
                have Hbw8 := hide (Hbw7.out.trans (hb8.mono (by omega)))
                have Hmap8 := hide (onl_map Hmap7.out hb8)
                clear hb8 hdg Hbw7 Hrm7 Hbx7 Hmap7
                generalize htr : trueE m.vars m.is (s : Int) (s : Int) = tr at *
                clear htr
                cases tr
                · go_wp2_with (at_lookup; refine wpList_lookup_own_int _ rfl _ _ 42 rfl 3 3 .i64 law3 Try.underlying42 Try.underlying3 (Dom.zero3 _) G n D rfl Hmap8.out _ _ rfl Hkey.out ?_; intro c hat hwc; have hc0 := one_is Hone5.out Hits.out hat; clear hat hwc)
                  go_roundw
                  case rel => exact ⟨s + 1, by omega, by go_num, Hbw8.out⟩
                  case measure => simp [intOf]; omega
                · go_wp2_with (at_lookup; refine wpList_lookup_own_int _ rfl _ _ 42 rfl 3 3 .i64 law3 Try.underlying42 Try.underlying3 (Dom.zero3 _) G n D rfl Hmap8.out _ _ rfl Hkey.out ?_; intro c hat hwc; have hc0 := one_is (b := true) Hone5.out ⟨fun _ => rfl, fun _ => Hits.out.2 trivial⟩ hat; clear hat hwc)
                  go_roundw
                  case rel => exact ⟨s + 1, by omega, by go_num, Hbw8.out⟩
                  case measure => simp [intOf]; omega
            · have hlt3' : ¬ ((s : Int) < (tt : Int)) := by omega
              go_wp2_with fail
              refine (awake_any _).mono ?_
              rintro e y1 ⟨rfl, hby⟩
              go_wp2_with fail
              go_ret
              exact ⟨rfl, by rw [hN]; exact Hbs.out.trans (hby.mono (by omega))⟩
end Go.Proofs.Ytohegmnfmomjaaa
