/- The walk of ArenaTurns. -/
import Derived.Test.YtbppdalfcldodaaGreatALaw
import Derived.Test.YtbppdalfcldodaaGreatAAwake
import Derived.Test.YtbppdalfcldodaaGreatGMd
import Derived.Test.YtbppdalfcldodaaGreatGReach
import Derived.Test.YtbppdalfcldodaaGreatCInitsA
import Derived.Deep.Cut
import Derived.Deep.CutRange
set_option maxRecDepth 100000
namespace Go.Proofs.YtbppdalfcldodaaGreat
open Go.RowKit Ex Go.WideMaps Go.Maps
set_option linter.unusedSimpArgs false
set_option linter.unusedVariables false

theorem hv6_nonneg (m : MT) : 0 ≤ hv6 m := by
  unfold hv6
  split
  · omega
  · split <;> omega
/- a map of marks at vertices -/
def VMark (D : DataW Unit) (l : List Vx) : Prop := ∀ x : Vx, SmV x → D.atKey (keyL x) (.lit (.int .i64 0)) = .lit (.int .i64 (if x ∈ l then 1 else 0))
theorem VMark.start : VMark (.map []) [] := fun x _ => by simp [DataW.atKey]
theorem VMark.put {D : DataW Unit} {l : List Vx} {x : Vx} (h : VMark D l) (hD : IsMap D) (hx : SmV x) : VMark (D.put (keyL x) (.lit (.int .i64 1))) (l ++ [x]) := fun y hy => by
  by_cases e : y = x
  · subst e
    rw [atKey_put_same hD (key_is hx)]; simp
  · rw [atKey_put_other (fun hh => e (keyL_inj hy hx hh)), h y hy]; simp [e]
theorem mark_no {D : DataW Unit} {l : List Vx} {x : Vx} {c : Int} (h : VMark D l) (hx : SmV x) (hn : x ∉ l) (hat : D.atKey (keyL x) (.lit (.int .i64 0)) = .lit (.int .i64 c)) : c = 0 := by
  rw [h x hx, if_neg hn] at hat
  injection hat with hat; injection hat with _ hat; exact hat.symm
theorem hown_below {w w' : World} {b n : Nat} {D : DataW Unit} (h : w.ownsMap Tryz.prog 57 (plainElem Tryz.prog 3) b n D) (hb : Below w.heap.size w w') : w'.ownsMap Tryz.prog 57 (plainElem Tryz.prog 3) b n D := by
  have hlt := h.lt
  obtain ⟨es, clock, h1, r⟩ := h
  exact ⟨es, clock, (hb.block b hlt).trans h1, r⟩
theorem not_before {l : List Vx} (hd : l.Nodup) {k : Nat} {x : Vx} (h : l[k]? = some x) : x ∉ l.take k := fun hm => by
  obtain ⟨j, hj⟩ := List.mem_iff_getElem?.1 hm
  have hjk : j < k := by
    have := (List.getElem?_eq_some_iff.1 hj).1
    rw [List.length_take] at this; omega
  rw [List.getElem?_take_of_lt hjk] at hj
  have h1 := numI_at hd h
  have h2 := numI_at hd hj
  rw [h1] at h2; omega
set_option maxHeartbeats 16000000 in
theorem aturns_any (B : Nat) (x : M8) (m : MT) (w : World) (hB : B ≤ w.heap.size) (hrm : RM w B x m) :
    Calls Tryz.prog 4 #[.agg x.cells] w fun e w' => e = .returned (.bool true) ∧ Below w.heap.size w w' := by
  have hbx := (Below.refl w.heap.size w).alloc (Nat.le_refl _) (.cells x.cells 28)
  have Hrm0 := hide (hrm.below (hbx.mono hB))
  have Hbx0 := hide (boxM_new w x)
  have Hb0 := hide hbx
  have hz0 : w.heap.size + 1 ≤ (w.alloc (.cells x.cells 28)).heap.size := by simp
  obtain ⟨⟨vA, vn, vc⟩, ⟨io, im, iA, il, ic⟩, ⟨jo, jm, jA, jl, jc⟩, ⟨eA, en, ec⟩, ⟨sA, sn, sc⟩, ⟨aA, an, ac⟩, ⟨nA, nn, nc⟩, ⟨pA, pn, pc⟩⟩ := x
  clear hrm hbx
  simp only [M8.cells, SL.v] at *
  obtain ⟨q0, q1, q2, q3, q4, q5, q6, q7, q8, q9, q10, q11⟩ := row12 Hbx0.out
  simp only at q0 q1 q2 q3 q4 q5 q6 q7 q8 q9 q10 q11
  go_enter Tryz.func4, Tryz.ntmps4
  go_wp2_with fail
  clear q0 q1 q2 q3 q4 q5 q6 q7 q8 q9 q10 q11
  generalize w.alloc (.cells #[.slice vA vn vc, .int .i64 io, .int .i64 im, .slice iA il ic, .int .i64 jo, .int .i64 jm, .slice jA jl jc, .slice eA en ec, .slice sA sn sc, .slice aA an ac, .slice nA nn nc, .slice pA pn pc] 28) = w0 at *
  generalize hN : w.heap.size = N at *
  refine (hv6_any B ⟨⟨vA, vn, vc⟩, ⟨io, im, iA, il, ic⟩, ⟨jo, jm, jA, jl, jc⟩, ⟨eA, en, ec⟩, ⟨sA, sn, sc⟩, ⟨aA, an, ac⟩, ⟨nA, nn, nc⟩, ⟨pA, pn, pc⟩⟩ m w0 (by omega) Hrm0.out).mono ?_
  rintro e w1 ⟨rfl, hb1⟩
  have hz1 := hb1.size
  have Hb1 := hide (Hb0.out.trans (hb1.mono (by omega)))
  have Hrm1 := hide (Hrm0.out.below (hb1.mono (by omega)))
  have Hbx1 := hide (Hbx0.out.below hb1 (by omega))
  clear hb1 Hb0 Hrm0 Hbx0
  have Htot : Hid (hv6 m = 0 → totN m ≤ 24) := hide hv6_tot
  have hnn : 0 ≤ hv6 m := hv6_nonneg m
  generalize hv6 m = hv at *
  by_cases hh : 0 < hv
  case pos =>
    have hhb : decide (0 < hv) = true := by simp [hh]
    clear hnn
    go_wp2_with fail
    refine (awake_any _).mono ?_
    rintro e y1 ⟨rfl, hby⟩
    go_wp2_with fail
    go_ret
    exact ⟨rfl, by rw [hN]; exact Hb1.out.trans (hby.mono (by omega))⟩
  case neg =>
    have hhb : decide (0 < hv) = false := by simp; omega
    have hT : totN m ≤ 24 := Htot.out (by omega)
    clear Htot hh hnn
    obtain ⟨q0, q1, q2, q3, q4, q5, q6, q7, q8, q9, q10, q11⟩ := row12 Hbx1.out
    simp only at q0 q1 q2 q3 q4 q5 q6 q7 q8 q9 q10 q11
    go_wp2_with fail
    clear q0 q1 q2 q3 q4 q5 q6 q7 q8 q9 q10 q11
    refine (rmod_any B ⟨⟨vA, vn, vc⟩, ⟨io, im, iA, il, ic⟩, ⟨jo, jm, jA, jl, jc⟩, ⟨eA, en, ec⟩, ⟨sA, sn, sc⟩, ⟨aA, an, ac⟩, ⟨nA, nn, nc⟩, ⟨pA, pn, pc⟩⟩ m w1 (by omega) Hrm1.out).mono ?_
    rintro e w2 ⟨rfl, hb2⟩
    have hz2 := hb2.size
    have Hb2 := hide (Hb1.out.trans (hb2.mono (by omega)))
    have Hrm2 := hide (Hrm1.out.below (hb2.mono (by omega)))
    have Hbx2 := hide (Hbx1.out.below hb2 (by omega))
    clear hb2 Hb1 Hrm1 Hbx1
    by_cases hc : modE m = 0
    case neg =>
      have hcb : (modE m != 0) = true := by simp [hc]
      go_wp2_with fail
      refine (awake_any _).mono ?_
      rintro e y1 ⟨rfl, hby⟩
      go_wp2_with fail
      go_ret
      exact ⟨rfl, by rw [hN]; exact Hb2.out.trans (hby.mono (by omega))⟩
    case pos =>
      have hcb : (modE m != 0) = false := by simp [hc]
      have Hc := hide hc
      obtain ⟨q0, q1, q2, q3, q4, q5, q6, q7, q8, q9, q10, q11⟩ := row12 Hbx2.out
      simp only at q0 q1 q2 q3 q4 q5 q6 q7 q8 q9 q10 q11
      clear hc
      go_wp2_with fail
      clear q0 q1 q2 q3 q4 q5 q6 q7 q8 q9 q10 q11 hcb
      refine (dbuild_any B ⟨⟨vA, vn, vc⟩, ⟨io, im, iA, il, ic⟩, ⟨jo, jm, jA, jl, jc⟩, ⟨eA, en, ec⟩, ⟨sA, sn, sc⟩, ⟨aA, an, ac⟩, ⟨nA, nn, nc⟩, ⟨pA, pn, pc⟩⟩ m w2 (by omega) Hrm2.out (fun _ => hT)).mono ?_
      rintro e w3 ⟨⟨OA, on, oc⟩, ⟨NA, nn2, nc2⟩, ⟨AA, L, ac2⟩, rfl, hrg, hrv, hb3⟩
      have hz3 := hb3.size
      have Har : Hid (Arena m (atL m) (nextL m)) := hide (arena_is hT)
      have hL625 := ar_len hT
      have ha1 : arAt m = atL m := by unfold arAt; rw [if_pos Hc.out]
      have ha2 : arNxt m = nextL m := by unfold arNxt; rw [if_pos Hc.out]
      have ha3 : arOwn m = (atL m).map ownV := by unfold arOwn; rw [ha1]
      rw [ha1] at hrv
      rw [ha2, ha3] at hrg
      have hpos := Har.out.pos
      generalize atL m = ats at *
      generalize nextL m = nxs at *
      have hLl : ats.length = L := hrv.1
      obtain rfl : L = on := by have := hrg.own.len; simp at this; omega
      obtain rfl : L = nn2 := by have := hrg.nxt.len; have h2 := Har.out.len; simp only at this; omega
      have Hmay : Hid (Gr.mayG ⟨ats.map ownV, nxs⟩ = 0) := hide (Har.out.may (by omega))
      have hL1 : 1 ≤ L := by omega
      have hL2 : L ≤ 625 := by omega
      have hbox := (Below.refl w3.heap.size w3).alloc (Nat.le_refl _) (.cells #[.slice OA L oc, .slice NA L nc2, .slice AA L ac2] 38)
      have Hrg := hide ((hrg.below hbox).more (Nat.le_succ _))
      have Hrv := hide ((hrv.below hbox).more (Nat.le_succ _))
      have Hb4 := hide ((Hb2.out.trans (hb3.mono (by omega))).trans (hbox.mono (by omega)))
      have Hrm4 := hide ((Hrm2.out.below (hb3.mono (by omega))).below (hbox.mono (by omega)))
      have Hbx4 := hide ((Hbx2.out.below hb3 (by omega)).below hbox (by omega))
      have Hk := hide (box3_cells (heap_alloc_new w3 (.cells #[.slice OA L oc, .slice NA L nc2, .slice AA L ac2] 38)))
      have hz4 : (w3.alloc (.cells #[.slice OA L oc, .slice NA L nc2, .slice AA L ac2] 38)).heap.size = w3.heap.size + 1 := by simp
      have Hlen : Hid (ats.length = L) := hide hLl
      have hme : (modE m != 0) = false := by rw [Hc.out]; rfl
      simp only [Gr.SL.v, SL.v]
      clear hrg hrv hb3 hbox ha1 ha2 ha3 hLl hpos Hb2 Hrm2 Hbx2 hL625
      obtain ⟨k0, k1, k2, _⟩ := Hk.out
      go_wp2_with fail
      clear k0 k1 k2
      generalize w3.alloc (.cells #[.slice OA L oc, .slice NA L nc2, .slice AA L ac2] 38) = w4 at *
      generalize w3.heap.size = Q at *
      refine (Gr.rmay_any (Q + 1) OA NA L oc L nc2 ⟨ats.map ownV, nxs⟩ w4 (by omega) Hrg.out).mono ?_
      rw [Hmay.out]
      rintro e w5 ⟨rfl, hb5⟩
      have hz5 := hb5.size
      have Hb5 := hide hb5
      clear hb5
      have k05 : w5.cell? ⟨Q, 0, none⟩ = some (.slice OA L oc) := (Hb5.out.cell (by show Q < _; omega)).trans Hk.out.1
      have k15 : w5.cell? ⟨Q, 1, none⟩ = some (.slice NA L nc2) := (Hb5.out.cell (by show Q < _; omega)).trans Hk.out.2.1
      go_wp2_with fail
      clear k05 k15
      refine (Gr.may_any (Q + 1) OA NA L oc L nc2 ⟨ats.map ownV, nxs⟩ w5 (by omega) (Hrg.out.below (Hb5.out.mono (by omega)))).mono ?_
      rw [Hmay.out]
      rintro e w6 ⟨rfl, hb6⟩
      have hz6 := hb6.size
      have Hb6 := hide (Hb5.out.trans (hb6.mono (by omega)))
      clear hb6 Hb5
      have k06 : w6.cell? ⟨Q, 0, none⟩ = some (.slice OA L oc) := (Hb6.out.cell (by show Q < _; omega)).trans Hk.out.1
      have k16 : w6.cell? ⟨Q, 1, none⟩ = some (.slice NA L nc2) := (Hb6.out.cell (by show Q < _; omega)).trans Hk.out.2.1
      have k26 : w6.cell? ⟨Q, 2, none⟩ = some (.slice AA L ac2) := (Hb6.out.cell (by show Q < _; omega)).trans Hk.out.2.2.1
      have hmm := @run_makeMap Tryz.prog
      have Hmap6 := hide (World.ownsMap_made (H := Unit) w6 Tryz.prog 57 (plainElem Tryz.prog 3))
      have Hb7 := hide (Hb6.out.alloc (by omega) (.map #[] 0))
      have hz7 : (w6.alloc (.map #[] 0)).heap.size = w6.heap.size + 1 := by simp
      have k27 : (w6.alloc (.map #[] 0)).cell? ⟨Q, 2, none⟩ = some (.slice AA L ac2) := (Hb7.out.cell (by show Q < _; omega)).trans Hk.out.2.2.1
      go_wp2_with fail
      clear k06 k16 k26 k27 hmm hme Hb6
      generalize w6.alloc (.map #[] 0) = w7 at *
      generalize w6.heap.size = M at *
      have hQM : Q + 1 ≤ M := by omega
      go_loopw [62] (fun i wr => ∃ (k n : Nat) (D : DataW Unit), k ≤ L ∧ i = .int .i64 k ∧ n ≤ k ∧ wr.ownsMap Tryz.prog 57 (plainElem Tryz.prog 3) M n D ∧ Hid (VMark D (ats.take k)) ∧ Hid (Below M w7 wr)) (fun i _ => L - (intOf i).toNat)
      case atStart => exact ⟨0, 0, .map [], by omega, rfl, by omega, Hmap6.out, hide VMark.start, hide (Below.refl _ _)⟩
      case round =>
        obtain ⟨k, n, D, hk, rfl, hn, hmap, Hmk, Hbl⟩ := hrel
        have HbQ := hide ((Hb7.out.mono (by omega)).trans (Hbl.out.mono hQM))
        have hzr := Hbl.out.size
        have k0r : wr.cell? ⟨Q, 0, none⟩ = some (.slice OA L oc) := (HbQ.out.cell (by show Q < _; omega)).trans Hk.out.1
        have k1r : wr.cell? ⟨Q, 1, none⟩ = some (.slice NA L nc2) := (HbQ.out.cell (by show Q < _; omega)).trans Hk.out.2.1
        by_cases hlt : k < L
        · have hlt' : ((k : Int) < (L : Int)) := by omega
          obtain ⟨pb, po, p, q, r, ePs, hpb, hpk, cp, cq, cr⟩ := RVx.at_ (Hrv.out.below (HbQ.out.mono (by omega))) hlt
          obtain ⟨ob, oo, ov, eO, hob, ho, co⟩ := Gr.RI.at_ (Hrg.out.below (HbQ.out.mono (by omega))).own hlt
          obtain ⟨nb, no, row, A2, n2, c2, eN, hnb, hrow, cn, hri⟩ := Gr.RR.at_ (Hrg.out.below (HbQ.out.mono (by omega))).nxt hlt
          subst ePs; subst eO; subst eN
          have hokx := Har.out.ok _ (List.mem_of_getElem? hpk)
          have Hsm := hide (okV_sm (by omega) hokx)
          have Hkey := hide (key_of Hsm.out)
          have Hno := hide (not_before Har.out.nd hpk)
          have Hroot := hide (Har.out.rootIs hpk)
          have Htk : Hid (ats.take (k + 1) = ats.take k ++ [(p, q, r)]) := hide (by rw [List.take_add_one, hpk]; rfl)
          have Hedge : Hid (∀ w ∈ row, ∃ (i : Nat) (y : Vx), w = (i : Int) ∧ i < ats.length ∧ ats[i]? = some y ∧ y ∈ succV m (p, q, r)) := hide fun w hw => Har.out.edge hrow hpk hw
          have Hokx := hide hokx
          have hov : ov = ownV (p, q, r) := by
            simp only [List.getElem?_map, hpk, Option.map_some, Option.some.injEq] at ho
            exact ho.symm
          have hkind : p = 1 ∨ p = 2 ∨ p = 3 ∨ p = 4 := by
            rcases hokx with e | ⟨_, e, _⟩ | ⟨_, e, _⟩ | ⟨_, _, e, _⟩ <;> (have := congrArg Prod.fst e; simp [rootV, startV, envV, sysV] at this; omega)
          have Hmap8 := hide (hmap.alloc (.cells #[.int .i64 p, .int .i64 q, .int .i64 r] 57))
          obtain ⟨d0, d1, d2⟩ := box57 wr p q r 57
          have hzM : M < wr.heap.size := by omega
          have hbA := (Below.refl wr.heap.size wr).alloc (Nat.le_refl _) (.cells #[.int .i64 p, .int .i64 q, .int .i64 r] 57)
          have HbA := hide hbA
          have k0A : (wr.alloc (.cells #[.int .i64 p, .int .i64 q, .int .i64 r] 57)).cell? ⟨Q, 0, none⟩ = some (.slice (some ⟨ob, oo, none⟩) L oc) := (HbA.out.cell (by show Q < _; omega)).trans k0r
          have k1A : (wr.alloc (.cells #[.int .i64 p, .int .i64 q, .int .i64 r] 57)).cell? ⟨Q, 1, none⟩ = some (.slice (some ⟨nb, no, none⟩) L nc2) := (HbA.out.cell (by show Q < _; omega)).trans k1r
          have coA : (wr.alloc (.cells #[.int .i64 p, .int .i64 q, .int .i64 r] 57)).cell? ⟨ob, oo + k, none⟩ = some (.int .i64 ov) := (HbA.out.cell (by show ob < _; omega)).trans co
          have cnA : (wr.alloc (.cells #[.int .i64 p, .int .i64 q, .int .i64 r] 57)).cell? ⟨nb, no + k, none⟩ = some (.slice A2 n2 c2) := (HbA.out.cell (by show nb < _; omega)).trans cn
          have hzA : (wr.alloc (.cells #[.int .i64 p, .int .i64 q, .int .i64 r] 57)).heap.size = wr.heap.size + 1 := by simp
          have HbQA := hide (HbQ.out.trans (HbA.out.mono (by omega)))
          clear hmap hpk ho hrow hokx hbA co cn
          rcases hkind with rfl | rfl | rfl | rfl
          · obtain rfl : k = 0 := by have := Hroot.out; simpa using this.symm
            simp only [Nat.zero_mul, Nat.add_zero] at cp cq cr coA cnA
            obtain rfl : ov = 0 := by rw [hov]; rfl
            have Hyk : Hid (∀ w ∈ row, ∃ (i : Nat) (q2 r2 : Int), w = (i : Int) ∧ i < L ∧ ats[i]? = some (2, q2, r2)) := hide fun w hw => by
              obtain ⟨i, ⟨p2, q2, r2⟩, e1, e2, e3, e4⟩ := Hedge.out w hw
              have hk := succ_kinds Hokx.out e4
              simp only at hk
              obtain rfl : p2 = 2 := by omega
              exact ⟨i, q2, r2, e1, by rw [← Hlen.out]; exact e2, e3⟩
            clear Hedge Hroot hov
            go_wp2_with (first
              | (at_lookup; refine wpList_lookup_own_int _ rfl _ _ 55 rfl 57 3 .i64 lawVx Tryz.underlying55 Tryz.underlying3 (zero3A _) M n D rfl Hmap8.out _ _ rfl Hkey.out ?_; intro c hat hwc; obtain rfl := mark_no Hmk.out Hsm.out Hno.out hat; clear hat hwc)
              | (at_mapUpdate; refine wpList_mapUpdate_own _ rfl _ _ _ 55 rfl 57 3 lawVx Tryz.underlying55 _ M n D rfl Hmap8.out (by unfold maxLen; omega) _ _ _ rfl rfl Hkey.out _ [] (plainElem_int Tryz.underlying3 (WalkArith.wf_i64 (by omega))) ?_; intro w9 hown9 hg9; have k19 : w9.cell? ⟨Q, 1, none⟩ = some (.slice (some ⟨nb, no, none⟩) L nc2) := (World.grownBy.cell_far hg9 ⟨Q, 1, none⟩ (by simp; omega) (fun e => absurd (Option.some.inj e) (by show Q ≠ M; omega))).trans k1A; have cn9 : w9.cell? ⟨nb, no, none⟩ = some (.slice A2 n2 c2) := (World.grownBy.cell_far hg9 ⟨nb, no, none⟩ (by simp; omega) (fun e => absurd (Option.some.inj e) (by show nb ≠ M; omega))).trans cnA; have Hg9 := hide hg9; have Hown9 := hide hown9; clear hg9 hown9)
              | go_in)
            have HbM9 := hide (HbQA.out.grown (B := Q + 1) Hg9.out (by omega) (fun z hz => by injection hz with hz; omega))
            have hz9 := Hg9.out.size
            have k09 : w9.cell? ⟨Q, 0, none⟩ = some (.slice (some ⟨ob, oo, none⟩) L oc) := (HbM9.out.cell (by show Q < _; omega)).trans Hk.out.1
            have k29 : w9.cell? ⟨Q, 2, none⟩ = some (.slice (some ⟨pb, po, none⟩) L ac2) := (HbM9.out.cell (by show Q < _; omega)).trans Hk.out.2.2.1
            have co9 : w9.cell? ⟨ob, oo, none⟩ = some (.int .i64 0) := (World.grownBy.cell_far Hg9.out ⟨ob, oo, none⟩ (by simp; omega) (fun e => absurd (Option.some.inj e) (by show ob ≠ M; omega))).trans coA
            have e09 : w9.cell? ⟨wr.heap.size, 0, none⟩ = some (.int .i64 1) := (World.grownBy.cell_far Hg9.out ⟨wr.heap.size, 0, none⟩ (by simp) (fun e => absurd (Option.some.inj e) (by show wr.heap.size ≠ M; omega))).trans d0
            have Hri9 := hide (Gr.RI.below hri (HbA.out.mono (by omega)))
            have Hri9 : Hid (Gr.RI w9 (Q + 1) ⟨A2, n2, c2⟩ row) := hide (Hri9.out.keep fun b o x h1 hx => (World.grownBy.cell_far Hg9.out ⟨b, o, none⟩ (by simp; omega) (fun e => absurd (Option.some.inj e) (by show b ≠ M; omega))).trans hx)
            have Hown : Hid (Gr.RG w9 (Q + 1) ⟨some ⟨ob, oo, none⟩, L, oc⟩ ⟨some ⟨nb, no, none⟩, L, nc2⟩ ⟨ats.map ownV, nxs⟩) := hide (Hrg.out.below (HbM9.out.mono (by omega)))
            have Hvx9 := hide (Hrv.out.below (HbM9.out.mono (by omega)))
            have HblM : Hid (Below M w7 w9) := hide ((Hbl.out.trans (HbA.out.mono (by omega))).grown Hg9.out (by omega) (fun z hz => by injection hz with hz; omega))
            have Hisq := hide Hmap8.out.isMap
            have hn2 : n2 ≤ 9223372036854775807 := Nat.le_trans hri.2.1 hri.2.2.1
            clear d0 d1 d2 k0A k1A coA cnA k0r k1r hri cp cq cr
            generalize hwq : wr.heap.size = wq at *
            go_loopw [107] (fun i wz => ∃ (j : Nat), j ≤ n2 ∧ i = .int .i64 j ∧ Hid (Below w9.heap.size w9 wz)) (fun i _ => n2 - (intOf i).toNat)
            case atStart => exact ⟨0, by omega, rfl, hide (Below.refl _ _)⟩
            case round =>
              obtain ⟨j, hj, rfl, Hwz⟩ := hrel
              have hzz := Hwz.out.size
              by_cases hlt2 : j < n2
              · have hlt2' : ((j : Int) < (n2 : Int)) := by omega
                obtain ⟨rb, ro, w', eR, hrb, hrj, crj⟩ := Gr.RI.at_ (Gr.RI.below Hri9.out (Hwz.out.mono (by omega))) hlt2
                obtain ⟨i, q2, r2, rfl, hiL, hati⟩ := Hyk.out w' (List.mem_of_getElem? hrj)
                have hiL' : ((i : Int) < (L : Int)) := by omega
                obtain ⟨ob2, oo2, ov2, eO2, hob2, ho2, co2⟩ := Gr.RI.at_ (Hown.out.below (Hwz.out.mono (by omega))).own hiL
                obtain ⟨pb2, po2, p2, q3, r3, ePs2, hpb2, hpk2, cp2, cq2, cr2⟩ := RVx.at_ (Hvx9.out.below (Hwz.out.mono (by omega))) hiL
                rw [hati] at hpk2
                simp only [Option.some.injEq, Prod.mk.injEq] at hpk2
                obtain ⟨rfl, rfl, rfl⟩ := hpk2
                simp only [List.getElem?_map, hati, Option.map_some, Option.some.injEq] at ho2
                obtain rfl : ov2 = 1 := by rw [← ho2]; rfl
                injection eO2 with eO2; injection eO2 with eO2 eO3; subst eO2; subst eO3
                injection ePs2 with ePs2; injection ePs2 with ePs2 ePs3; subst ePs2; subst ePs3
                subst eR
                have Hj := hide hlt2
                have k0z := (Hwz.out.cell (p := ⟨Q, 0, none⟩) (by show Q < _; omega)).trans k09
                have k2z := (Hwz.out.cell (p := ⟨Q, 2, none⟩) (by show Q < _; omega)).trans k29
                have coz := (Hwz.out.cell (p := ⟨ob, oo, none⟩) (by show ob < _; omega)).trans co9
                have e0z := (Hwz.out.cell (p := ⟨wq, 0, none⟩) (by show wq < _; omega)).trans e09
                clear hrj hati ho2 cq2 cr2
                go_wp2_with fail
                go_region
                go_wp2_with fail
                go_roundw
                case rel => exact ⟨j + 1, by have := Hj.out; omega, by go_num, hide (below_drew Hwz.out)⟩
                case measure => have := Hj.out; simp [intOf]; omega
              · have hlt2' : ¬ ((j : Int) < (n2 : Int)) := by omega
                obtain rfl : j = n2 := by omega
                go_wp2_with fail
                go_roundw
                case rel => exact ⟨0 + 1, n + 1, _, by omega, by go_num, by omega, (hown_below Hown9.out Hwz.out), hide (by rw [Htk.out]; exact Hmk.out.put Hisq.out Hsm.out), hide (HblM.out.trans (Hwz.out.mono (by omega)))⟩
                case measure => simp [intOf]; omega
          · have hk0 : ((k : Int) == 0) = false := by have := Hroot.out; simp at this; simp; omega
            obtain rfl : ov = 1 := by rw [hov]; rfl
            have Hyk : Hid (∀ w ∈ row, ∃ (i : Nat) (q2 r2 : Int), w = (i : Int) ∧ i < L ∧ ats[i]? = some (3, q2, r2)) := hide fun w hw => by
              obtain ⟨i, ⟨p2, q2, r2⟩, e1, e2, e3, e4⟩ := Hedge.out w hw
              have hk := succ_kinds Hokx.out e4
              simp only at hk
              obtain rfl : p2 = 3 := by omega
              exact ⟨i, q2, r2, e1, by rw [← Hlen.out]; exact e2, e3⟩
            clear Hedge Hroot hov
            go_wp2_with (first
              | (at_lookup; refine wpList_lookup_own_int _ rfl _ _ 55 rfl 57 3 .i64 lawVx Tryz.underlying55 Tryz.underlying3 (zero3A _) M n D rfl Hmap8.out _ _ rfl Hkey.out ?_; intro c hat hwc; obtain rfl := mark_no Hmk.out Hsm.out Hno.out hat; clear hat hwc)
              | (at_mapUpdate; refine wpList_mapUpdate_own _ rfl _ _ _ 55 rfl 57 3 lawVx Tryz.underlying55 _ M n D rfl Hmap8.out (by unfold maxLen; omega) _ _ _ rfl rfl Hkey.out _ [] (plainElem_int Tryz.underlying3 (WalkArith.wf_i64 (by omega))) ?_; intro w9 hown9 hg9; have k19 : w9.cell? ⟨Q, 1, none⟩ = some (.slice (some ⟨nb, no, none⟩) L nc2) := (World.grownBy.cell_far hg9 ⟨Q, 1, none⟩ (by simp; omega) (fun e => absurd (Option.some.inj e) (by show Q ≠ M; omega))).trans k1A; have cn9 : w9.cell? ⟨nb, no + k, none⟩ = some (.slice A2 n2 c2) := (World.grownBy.cell_far hg9 ⟨nb, no + k, none⟩ (by simp; omega) (fun e => absurd (Option.some.inj e) (by show nb ≠ M; omega))).trans cnA; have Hg9 := hide hg9; have Hown9 := hide hown9; clear hg9 hown9)
              | go_in)
            have HbM9 := hide (HbQA.out.grown (B := Q + 1) Hg9.out (by omega) (fun z hz => by injection hz with hz; omega))
            have hz9 := Hg9.out.size
            have k09 : w9.cell? ⟨Q, 0, none⟩ = some (.slice (some ⟨ob, oo, none⟩) L oc) := (HbM9.out.cell (by show Q < _; omega)).trans Hk.out.1
            have k29 : w9.cell? ⟨Q, 2, none⟩ = some (.slice (some ⟨pb, po, none⟩) L ac2) := (HbM9.out.cell (by show Q < _; omega)).trans Hk.out.2.2.1
            have co9 : w9.cell? ⟨ob, oo + k, none⟩ = some (.int .i64 1) := (World.grownBy.cell_far Hg9.out ⟨ob, oo + k, none⟩ (by simp; omega) (fun e => absurd (Option.some.inj e) (by show ob ≠ M; omega))).trans coA
            have e09 : w9.cell? ⟨wr.heap.size, 0, none⟩ = some (.int .i64 2) := (World.grownBy.cell_far Hg9.out ⟨wr.heap.size, 0, none⟩ (by simp) (fun e => absurd (Option.some.inj e) (by show wr.heap.size ≠ M; omega))).trans d0
            have Hri9 := hide (Gr.RI.below hri (HbA.out.mono (by omega)))
            have Hri9 : Hid (Gr.RI w9 (Q + 1) ⟨A2, n2, c2⟩ row) := hide (Hri9.out.keep fun b o x h1 hx => (World.grownBy.cell_far Hg9.out ⟨b, o, none⟩ (by simp; omega) (fun e => absurd (Option.some.inj e) (by show b ≠ M; omega))).trans hx)
            have Hown : Hid (Gr.RG w9 (Q + 1) ⟨some ⟨ob, oo, none⟩, L, oc⟩ ⟨some ⟨nb, no, none⟩, L, nc2⟩ ⟨ats.map ownV, nxs⟩) := hide (Hrg.out.below (HbM9.out.mono (by omega)))
            have Hvx9 := hide (Hrv.out.below (HbM9.out.mono (by omega)))
            have HblM : Hid (Below M w7 w9) := hide ((Hbl.out.trans (HbA.out.mono (by omega))).grown Hg9.out (by omega) (fun z hz => by injection hz with hz; omega))
            have Hisq := hide Hmap8.out.isMap
            have hn2 : n2 ≤ 9223372036854775807 := Nat.le_trans hri.2.1 hri.2.2.1
            clear d0 d1 d2 k0A k1A coA cnA k0r k1r hri cp cq cr
            generalize hwq : wr.heap.size = wq at *
            go_loopw [107] (fun i wz => ∃ (j : Nat), j ≤ n2 ∧ i = .int .i64 j ∧ Hid (Below w9.heap.size w9 wz)) (fun i _ => n2 - (intOf i).toNat)
            case atStart => exact ⟨0, by omega, rfl, hide (Below.refl _ _)⟩
            case round =>
              obtain ⟨j, hj, rfl, Hwz⟩ := hrel
              have hzz := Hwz.out.size
              by_cases hlt2 : j < n2
              · have hlt2' : ((j : Int) < (n2 : Int)) := by omega
                obtain ⟨rb, ro, w', eR, hrb, hrj, crj⟩ := Gr.RI.at_ (Gr.RI.below Hri9.out (Hwz.out.mono (by omega))) hlt2
                obtain ⟨i, q2, r2, rfl, hiL, hati⟩ := Hyk.out w' (List.mem_of_getElem? hrj)
                have hiL' : ((i : Int) < (L : Int)) := by omega
                obtain ⟨ob2, oo2, ov2, eO2, hob2, ho2, co2⟩ := Gr.RI.at_ (Hown.out.below (Hwz.out.mono (by omega))).own hiL
                obtain ⟨pb2, po2, p2, q3, r3, ePs2, hpb2, hpk2, cp2, cq2, cr2⟩ := RVx.at_ (Hvx9.out.below (Hwz.out.mono (by omega))) hiL
                rw [hati] at hpk2
                simp only [Option.some.injEq, Prod.mk.injEq] at hpk2
                obtain ⟨rfl, rfl, rfl⟩ := hpk2
                simp only [List.getElem?_map, hati, Option.map_some, Option.some.injEq] at ho2
                obtain rfl : ov2 = 0 := by rw [← ho2]; rfl
                injection eO2 with eO2; injection eO2 with eO2 eO3; subst eO2; subst eO3
                injection ePs2 with ePs2; injection ePs2 with ePs2 ePs3; subst ePs2; subst ePs3
                subst eR
                have Hj := hide hlt2
                have k0z := (Hwz.out.cell (p := ⟨Q, 0, none⟩) (by show Q < _; omega)).trans k09
                have k2z := (Hwz.out.cell (p := ⟨Q, 2, none⟩) (by show Q < _; omega)).trans k29
                have coz := (Hwz.out.cell (p := ⟨ob, oo + k, none⟩) (by show ob < _; omega)).trans co9
                have e0z := (Hwz.out.cell (p := ⟨wq, 0, none⟩) (by show wq < _; omega)).trans e09
                clear hrj hati ho2 cq2 cr2
                go_wp2_with fail
                go_region
                go_wp2_with fail
                go_roundw
                case rel => exact ⟨j + 1, by have := Hj.out; omega, by go_num, hide (below_drew Hwz.out)⟩
                case measure => have := Hj.out; simp [intOf]; omega
              · have hlt2' : ¬ ((j : Int) < (n2 : Int)) := by omega
                obtain rfl : j = n2 := by omega
                go_wp2_with fail
                go_roundw
                case rel => exact ⟨k + 1, n + 1, _, by omega, by go_num, by omega, (hown_below Hown9.out Hwz.out), hide (by rw [Htk.out]; exact Hmk.out.put Hisq.out Hsm.out), hide (HblM.out.trans (Hwz.out.mono (by omega)))⟩
                case measure => simp [intOf]; omega
          · have hk0 : ((k : Int) == 0) = false := by have := Hroot.out; simp at this; simp; omega
            obtain rfl : ov = 0 := by rw [hov]; rfl
            have Hyk : Hid (∀ w ∈ row, ∃ (i : Nat) (q2 r2 : Int), w = (i : Int) ∧ i < L ∧ ats[i]? = some (4, q2, r2)) := hide fun w hw => by
              obtain ⟨i, ⟨p2, q2, r2⟩, e1, e2, e3, e4⟩ := Hedge.out w hw
              have hk := succ_kinds Hokx.out e4
              simp only at hk
              obtain rfl : p2 = 4 := by omega
              exact ⟨i, q2, r2, e1, by rw [← Hlen.out]; exact e2, e3⟩
            clear Hedge Hroot hov
            go_wp2_with (first
              | (at_lookup; refine wpList_lookup_own_int _ rfl _ _ 55 rfl 57 3 .i64 lawVx Tryz.underlying55 Tryz.underlying3 (zero3A _) M n D rfl Hmap8.out _ _ rfl Hkey.out ?_; intro c hat hwc; obtain rfl := mark_no Hmk.out Hsm.out Hno.out hat; clear hat hwc)
              | (at_mapUpdate; refine wpList_mapUpdate_own _ rfl _ _ _ 55 rfl 57 3 lawVx Tryz.underlying55 _ M n D rfl Hmap8.out (by unfold maxLen; omega) _ _ _ rfl rfl Hkey.out _ [] (plainElem_int Tryz.underlying3 (WalkArith.wf_i64 (by omega))) ?_; intro w9 hown9 hg9; have k19 : w9.cell? ⟨Q, 1, none⟩ = some (.slice (some ⟨nb, no, none⟩) L nc2) := (World.grownBy.cell_far hg9 ⟨Q, 1, none⟩ (by simp; omega) (fun e => absurd (Option.some.inj e) (by show Q ≠ M; omega))).trans k1A; have cn9 : w9.cell? ⟨nb, no + k, none⟩ = some (.slice A2 n2 c2) := (World.grownBy.cell_far hg9 ⟨nb, no + k, none⟩ (by simp; omega) (fun e => absurd (Option.some.inj e) (by show nb ≠ M; omega))).trans cnA; have Hg9 := hide hg9; have Hown9 := hide hown9; clear hg9 hown9)
              | go_in)
            have HbM9 := hide (HbQA.out.grown (B := Q + 1) Hg9.out (by omega) (fun z hz => by injection hz with hz; omega))
            have hz9 := Hg9.out.size
            have k09 : w9.cell? ⟨Q, 0, none⟩ = some (.slice (some ⟨ob, oo, none⟩) L oc) := (HbM9.out.cell (by show Q < _; omega)).trans Hk.out.1
            have k29 : w9.cell? ⟨Q, 2, none⟩ = some (.slice (some ⟨pb, po, none⟩) L ac2) := (HbM9.out.cell (by show Q < _; omega)).trans Hk.out.2.2.1
            have co9 : w9.cell? ⟨ob, oo + k, none⟩ = some (.int .i64 0) := (World.grownBy.cell_far Hg9.out ⟨ob, oo + k, none⟩ (by simp; omega) (fun e => absurd (Option.some.inj e) (by show ob ≠ M; omega))).trans coA
            have e09 : w9.cell? ⟨wr.heap.size, 0, none⟩ = some (.int .i64 3) := (World.grownBy.cell_far Hg9.out ⟨wr.heap.size, 0, none⟩ (by simp) (fun e => absurd (Option.some.inj e) (by show wr.heap.size ≠ M; omega))).trans d0
            have Hri9 := hide (Gr.RI.below hri (HbA.out.mono (by omega)))
            have Hri9 : Hid (Gr.RI w9 (Q + 1) ⟨A2, n2, c2⟩ row) := hide (Hri9.out.keep fun b o x h1 hx => (World.grownBy.cell_far Hg9.out ⟨b, o, none⟩ (by simp; omega) (fun e => absurd (Option.some.inj e) (by show b ≠ M; omega))).trans hx)
            have Hown : Hid (Gr.RG w9 (Q + 1) ⟨some ⟨ob, oo, none⟩, L, oc⟩ ⟨some ⟨nb, no, none⟩, L, nc2⟩ ⟨ats.map ownV, nxs⟩) := hide (Hrg.out.below (HbM9.out.mono (by omega)))
            have Hvx9 := hide (Hrv.out.below (HbM9.out.mono (by omega)))
            have HblM : Hid (Below M w7 w9) := hide ((Hbl.out.trans (HbA.out.mono (by omega))).grown Hg9.out (by omega) (fun z hz => by injection hz with hz; omega))
            have Hisq := hide Hmap8.out.isMap
            have hn2 : n2 ≤ 9223372036854775807 := Nat.le_trans hri.2.1 hri.2.2.1
            clear d0 d1 d2 k0A k1A coA cnA k0r k1r hri cp cq cr
            generalize hwq : wr.heap.size = wq at *
            go_loopw [107] (fun i wz => ∃ (j : Nat), j ≤ n2 ∧ i = .int .i64 j ∧ Hid (Below w9.heap.size w9 wz)) (fun i _ => n2 - (intOf i).toNat)
            case atStart => exact ⟨0, by omega, rfl, hide (Below.refl _ _)⟩
            case round =>
              obtain ⟨j, hj, rfl, Hwz⟩ := hrel
              have hzz := Hwz.out.size
              by_cases hlt2 : j < n2
              · have hlt2' : ((j : Int) < (n2 : Int)) := by omega
                obtain ⟨rb, ro, w', eR, hrb, hrj, crj⟩ := Gr.RI.at_ (Gr.RI.below Hri9.out (Hwz.out.mono (by omega))) hlt2
                obtain ⟨i, q2, r2, rfl, hiL, hati⟩ := Hyk.out w' (List.mem_of_getElem? hrj)
                have hiL' : ((i : Int) < (L : Int)) := by omega
                obtain ⟨ob2, oo2, ov2, eO2, hob2, ho2, co2⟩ := Gr.RI.at_ (Hown.out.below (Hwz.out.mono (by omega))).own hiL
                obtain ⟨pb2, po2, p2, q3, r3, ePs2, hpb2, hpk2, cp2, cq2, cr2⟩ := RVx.at_ (Hvx9.out.below (Hwz.out.mono (by omega))) hiL
                rw [hati] at hpk2
                simp only [Option.some.injEq, Prod.mk.injEq] at hpk2
                obtain ⟨rfl, rfl, rfl⟩ := hpk2
                simp only [List.getElem?_map, hati, Option.map_some, Option.some.injEq] at ho2
                obtain rfl : ov2 = 1 := by rw [← ho2]; rfl
                injection eO2 with eO2; injection eO2 with eO2 eO3; subst eO2; subst eO3
                injection ePs2 with ePs2; injection ePs2 with ePs2 ePs3; subst ePs2; subst ePs3
                subst eR
                have Hj := hide hlt2
                have k0z := (Hwz.out.cell (p := ⟨Q, 0, none⟩) (by show Q < _; omega)).trans k09
                have k2z := (Hwz.out.cell (p := ⟨Q, 2, none⟩) (by show Q < _; omega)).trans k29
                have coz := (Hwz.out.cell (p := ⟨ob, oo + k, none⟩) (by show ob < _; omega)).trans co9
                have e0z := (Hwz.out.cell (p := ⟨wq, 0, none⟩) (by show wq < _; omega)).trans e09
                clear hrj hati ho2 cq2 cr2
                go_wp2_with fail
                go_region
                go_wp2_with fail
                go_roundw
                case rel => exact ⟨j + 1, by have := Hj.out; omega, by go_num, hide (below_drew Hwz.out)⟩
                case measure => have := Hj.out; simp [intOf]; omega
              · have hlt2' : ¬ ((j : Int) < (n2 : Int)) := by omega
                obtain rfl : j = n2 := by omega
                go_wp2_with fail
                go_roundw
                case rel => exact ⟨k + 1, n + 1, _, by omega, by go_num, by omega, (hown_below Hown9.out Hwz.out), hide (by rw [Htk.out]; exact Hmk.out.put Hisq.out Hsm.out), hide (HblM.out.trans (Hwz.out.mono (by omega)))⟩
                case measure => simp [intOf]; omega
          · have hk0 : ((k : Int) == 0) = false := by have := Hroot.out; simp at this; simp; omega
            obtain rfl : ov = 1 := by rw [hov]; rfl
            have Hyk : Hid (∀ w ∈ row, ∃ (i : Nat) (q2 r2 : Int), w = (i : Int) ∧ i < L ∧ ats[i]? = some (3, q2, r2)) := hide fun w hw => by
              obtain ⟨i, ⟨p2, q2, r2⟩, e1, e2, e3, e4⟩ := Hedge.out w hw
              have hk := succ_kinds Hokx.out e4
              simp only at hk
              obtain rfl : p2 = 3 := by omega
              exact ⟨i, q2, r2, e1, by rw [← Hlen.out]; exact e2, e3⟩
            clear Hedge Hroot hov
            go_wp2_with (first
              | (at_lookup; refine wpList_lookup_own_int _ rfl _ _ 55 rfl 57 3 .i64 lawVx Tryz.underlying55 Tryz.underlying3 (zero3A _) M n D rfl Hmap8.out _ _ rfl Hkey.out ?_; intro c hat hwc; obtain rfl := mark_no Hmk.out Hsm.out Hno.out hat; clear hat hwc)
              | (at_mapUpdate; refine wpList_mapUpdate_own _ rfl _ _ _ 55 rfl 57 3 lawVx Tryz.underlying55 _ M n D rfl Hmap8.out (by unfold maxLen; omega) _ _ _ rfl rfl Hkey.out _ [] (plainElem_int Tryz.underlying3 (WalkArith.wf_i64 (by omega))) ?_; intro w9 hown9 hg9; have k19 : w9.cell? ⟨Q, 1, none⟩ = some (.slice (some ⟨nb, no, none⟩) L nc2) := (World.grownBy.cell_far hg9 ⟨Q, 1, none⟩ (by simp; omega) (fun e => absurd (Option.some.inj e) (by show Q ≠ M; omega))).trans k1A; have cn9 : w9.cell? ⟨nb, no + k, none⟩ = some (.slice A2 n2 c2) := (World.grownBy.cell_far hg9 ⟨nb, no + k, none⟩ (by simp; omega) (fun e => absurd (Option.some.inj e) (by show nb ≠ M; omega))).trans cnA; have Hg9 := hide hg9; have Hown9 := hide hown9; clear hg9 hown9)
              | go_in)
            have HbM9 := hide (HbQA.out.grown (B := Q + 1) Hg9.out (by omega) (fun z hz => by injection hz with hz; omega))
            have hz9 := Hg9.out.size
            have k09 : w9.cell? ⟨Q, 0, none⟩ = some (.slice (some ⟨ob, oo, none⟩) L oc) := (HbM9.out.cell (by show Q < _; omega)).trans Hk.out.1
            have k29 : w9.cell? ⟨Q, 2, none⟩ = some (.slice (some ⟨pb, po, none⟩) L ac2) := (HbM9.out.cell (by show Q < _; omega)).trans Hk.out.2.2.1
            have co9 : w9.cell? ⟨ob, oo + k, none⟩ = some (.int .i64 1) := (World.grownBy.cell_far Hg9.out ⟨ob, oo + k, none⟩ (by simp; omega) (fun e => absurd (Option.some.inj e) (by show ob ≠ M; omega))).trans coA
            have e09 : w9.cell? ⟨wr.heap.size, 0, none⟩ = some (.int .i64 4) := (World.grownBy.cell_far Hg9.out ⟨wr.heap.size, 0, none⟩ (by simp) (fun e => absurd (Option.some.inj e) (by show wr.heap.size ≠ M; omega))).trans d0
            have Hri9 := hide (Gr.RI.below hri (HbA.out.mono (by omega)))
            have Hri9 : Hid (Gr.RI w9 (Q + 1) ⟨A2, n2, c2⟩ row) := hide (Hri9.out.keep fun b o x h1 hx => (World.grownBy.cell_far Hg9.out ⟨b, o, none⟩ (by simp; omega) (fun e => absurd (Option.some.inj e) (by show b ≠ M; omega))).trans hx)
            have Hown : Hid (Gr.RG w9 (Q + 1) ⟨some ⟨ob, oo, none⟩, L, oc⟩ ⟨some ⟨nb, no, none⟩, L, nc2⟩ ⟨ats.map ownV, nxs⟩) := hide (Hrg.out.below (HbM9.out.mono (by omega)))
            have Hvx9 := hide (Hrv.out.below (HbM9.out.mono (by omega)))
            have HblM : Hid (Below M w7 w9) := hide ((Hbl.out.trans (HbA.out.mono (by omega))).grown Hg9.out (by omega) (fun z hz => by injection hz with hz; omega))
            have Hisq := hide Hmap8.out.isMap
            have hn2 : n2 ≤ 9223372036854775807 := Nat.le_trans hri.2.1 hri.2.2.1
            clear d0 d1 d2 k0A k1A coA cnA k0r k1r hri cp cq cr
            generalize hwq : wr.heap.size = wq at *
            go_loopw [107] (fun i wz => ∃ (j : Nat), j ≤ n2 ∧ i = .int .i64 j ∧ Hid (Below w9.heap.size w9 wz)) (fun i _ => n2 - (intOf i).toNat)
            case atStart => exact ⟨0, by omega, rfl, hide (Below.refl _ _)⟩
            case round =>
              obtain ⟨j, hj, rfl, Hwz⟩ := hrel
              have hzz := Hwz.out.size
              by_cases hlt2 : j < n2
              · have hlt2' : ((j : Int) < (n2 : Int)) := by omega
                obtain ⟨rb, ro, w', eR, hrb, hrj, crj⟩ := Gr.RI.at_ (Gr.RI.below Hri9.out (Hwz.out.mono (by omega))) hlt2
                obtain ⟨i, q2, r2, rfl, hiL, hati⟩ := Hyk.out w' (List.mem_of_getElem? hrj)
                have hiL' : ((i : Int) < (L : Int)) := by omega
                obtain ⟨ob2, oo2, ov2, eO2, hob2, ho2, co2⟩ := Gr.RI.at_ (Hown.out.below (Hwz.out.mono (by omega))).own hiL
                obtain ⟨pb2, po2, p2, q3, r3, ePs2, hpb2, hpk2, cp2, cq2, cr2⟩ := RVx.at_ (Hvx9.out.below (Hwz.out.mono (by omega))) hiL
                rw [hati] at hpk2
                simp only [Option.some.injEq, Prod.mk.injEq] at hpk2
                obtain ⟨rfl, rfl, rfl⟩ := hpk2
                simp only [List.getElem?_map, hati, Option.map_some, Option.some.injEq] at ho2
                obtain rfl : ov2 = 0 := by rw [← ho2]; rfl
                injection eO2 with eO2; injection eO2 with eO2 eO3; subst eO2; subst eO3
                injection ePs2 with ePs2; injection ePs2 with ePs2 ePs3; subst ePs2; subst ePs3
                subst eR
                have Hj := hide hlt2
                have k0z := (Hwz.out.cell (p := ⟨Q, 0, none⟩) (by show Q < _; omega)).trans k09
                have k2z := (Hwz.out.cell (p := ⟨Q, 2, none⟩) (by show Q < _; omega)).trans k29
                have coz := (Hwz.out.cell (p := ⟨ob, oo + k, none⟩) (by show ob < _; omega)).trans co9
                have e0z := (Hwz.out.cell (p := ⟨wq, 0, none⟩) (by show wq < _; omega)).trans e09
                clear hrj hati ho2 cq2 cr2
                go_wp2_with fail
                go_region
                go_wp2_with fail
                go_roundw
                case rel => exact ⟨j + 1, by have := Hj.out; omega, by go_num, hide (below_drew Hwz.out)⟩
                case measure => have := Hj.out; simp [intOf]; omega
              · have hlt2' : ¬ ((j : Int) < (n2 : Int)) := by omega
                obtain rfl : j = n2 := by omega
                go_wp2_with fail
                go_roundw
                case rel => exact ⟨k + 1, n + 1, _, by omega, by go_num, by omega, (hown_below Hown9.out Hwz.out), hide (by rw [Htk.out]; exact Hmk.out.put Hisq.out Hsm.out), hide (HblM.out.trans (Hwz.out.mono (by omega)))⟩
                case measure => simp [intOf]; omega
        · have hlt' : ¬ ((k : Int) < (L : Int)) := by omega
          obtain rfl : k = L := by omega
          have hrw : (wr.alloc (.cells #[.bool true] 4)).heap.size = wr.heap.size + 1 := by simp
          have HbA := hide ((Below.refl wr.heap.size wr).alloc (Nat.le_refl _) (.cells #[.bool true] 4))
          have Htrue : Hid (Gr.RB (wr.alloc (.cells #[.bool true] 4)) (wr.heap.size + 1) ⟨some ⟨wr.heap.size, 0, none⟩, 1, 1⟩ [true]) := hide ⟨rfl, Nat.le_refl _, by show 1 ≤ maxLen; unfold maxLen; omega, fun _ => ⟨wr.heap.size, 0, rfl, by omega, fun k x hx => by
            obtain rfl : k = 0 := by have := (List.getElem?_eq_some_iff.1 hx).1; simp at this; omega
            simp at hx; subst hx
            show (wr.alloc (.cells #[.bool true] 4)).cell? ⟨wr.heap.size, 0 + 0, none⟩ = _
            simp [go_sem]⟩, fun e => by cases e⟩
          have Hreach := hide (Har.out.reach (by rw [Hlen.out]; omega))
          go_wp2_with fail
          refine (Gr.dreach_any (wr.heap.size + 1) OA NA k oc k nc2 ⟨ats.map ownV, nxs⟩ (some ⟨wr.heap.size, 0, none⟩) 1 1 [true] _ (by omega) ((Hrg.out.below ((HbQ.out.trans (HbA.out.mono (by omega))).mono (by omega))).more (by omega)) Htrue.out).mono ?_
          rw [Hreach.out, Hlen.out]
          rintro e w9 ⟨⟨RA, rn, rc⟩, rfl, hrb, hb9⟩
          have Hrb := hide hrb
          obtain rfl : rn = k := by have := hrb.1; simpa using this.symm
          have Hb9 := hide (((Hb4.out.trans (HbQ.out.mono (by omega))).trans (HbA.out.mono (by omega))).trans (hb9.mono (by omega)))
          have hz9 := hb9.size
          clear hrb hb9 k0r k1r
          simp only [Gr.SL.v]
          go_wp2_with fail
          go_loopw [161] (fun i wz => ∃ (j : Nat), j ≤ rn ∧ i = .int .i64 j ∧ Hid (Below w9.heap.size w9 wz)) (fun i _ => rn - (intOf i).toNat)
          case atStart => exact ⟨0, by omega, rfl, hide (Below.refl _ _)⟩
          case round =>
            obtain ⟨j, hj, rfl, Hwz⟩ := hrel
            have hzz := Hwz.out.size
            by_cases hlt2 : j < rn
            · have hlt2' : ((j : Int) < (rn : Int)) := by omega
              obtain ⟨rb, ro, bv, eR, hrb, hrj, crj⟩ := Gr.RB.at_ (Gr.RB.below Hrb.out Hwz.out) hlt2
              rw [List.getElem?_replicate, if_pos hlt2] at hrj
              obtain rfl := Option.some.inj hrj
              subst eR
              have Hj := hide hlt2
              clear hrj
              go_wp2_with fail
              go_roundw
              case rel => exact ⟨j + 1, by have := Hj.out; omega, by go_num, Hwz⟩
              case measure => have := Hj.out; simp [intOf]; omega
            · have hlt2' : ¬ ((j : Int) < (rn : Int)) := by omega
              obtain rfl : j = rn := by omega
              go_wp2_with fail
              refine (awake_any _).mono ?_
              rintro e y1 ⟨rfl, hby⟩
              go_wp2_with fail
              go_ret
              exact ⟨rfl, by rw [hN]; exact (Hb9.out.trans (Hwz.out.mono (by omega))).trans (hby.mono (by omega))⟩
end Go.Proofs.YtbppdalfcldodaaGreat
