/- The walk of ArenaMore. -/
import Derived.Test.YtbppdalfcldodaaGreatAMoreD
set_option maxRecDepth 100000
namespace Go.Proofs.YtbppdalfcldodaaGreat
open Go.RowKit Ex Go.WideMaps Go.Maps
set_option linter.unusedSimpArgs false
set_option linter.unusedVariables false

set_option maxHeartbeats 16000000 in
theorem amore_any (B : Nat) (x : M8) (m : MT) (y : C2) (c : CT) (env : Bool) (w : World) (hB : B ≤ w.heap.size) (hrm : RM w B x m) (hrc : RC w B y c) :
    Calls Tryz.prog 7 #[.agg x.cells, .agg y.cells, .bool env] w fun e w' => e = .returned (.bool true) ∧ Below w.heap.size w w' := by
  have hbx : Below w.heap.size w ((w.alloc (.cells x.cells 28)).alloc (.cells y.cells 71)) := ((Below.refl _ _).alloc (Nat.le_refl _) _).alloc (by simp) _
  have Hrm := hide (hrm.below (hbx.mono hB))
  have Hrc := hide (hrc.below (hbx.mono hB))
  have Hb0 := hide hbx
  have Hm1 : Hid (((w.alloc (.cells x.cells 28)).alloc (.cells y.cells 71)).heap[w.heap.size + 1]? = some (.cells y.cells 71 (0, 0))) := hide (new_at (by simp))
  have Hrow0 : Hid (((w.alloc (.cells x.cells 28)).alloc (.cells y.cells 71)).rowIs w.heap.size 28 12 (mV x)) := hide ((mV_new w x).alloc _)
  have hzW : ((w.alloc (.cells x.cells 28)).alloc (.cells y.cells 71)).heap.size = w.heap.size + 2 := by simp
  clear hrm hrc hbx
  obtain ⟨⟨vA, vn, vc⟩, ⟨io, im, iA, il, ic⟩, ⟨jo, jm, jA, jl, jc⟩, ⟨eA, en, ec⟩, ⟨sA, sn, sc⟩, ⟨aA, an, ac⟩, ⟨nA, nn, nc⟩, ⟨pA, pn, pc⟩⟩ := x
  obtain ⟨⟨co, cn, cA, cl, cc⟩, ⟨tA, tn, tc⟩⟩ := y
  simp only [M8.cells, C2.cells, SL.v] at *
  go_enter Tryz.func7, Tryz.ntmps7
  go_wp2_with fail
  generalize (w.alloc (.cells #[.slice vA vn vc, .int .i64 io, .int .i64 im, .slice iA il ic, .int .i64 jo, .int .i64 jm, .slice jA jl jc, .slice eA en ec, .slice sA sn sc, .slice aA an ac, .slice nA nn nc, .slice pA pn pc] 28)).alloc (.cells #[.int .i64 co, .int .i64 cn, .slice cA cl cc, .slice tA tn tc] 71) = W at *
  generalize hN : w.heap.size = N at *
  have Htot : Hid (hv6 m = 0 → totN m ≤ 24) := hide hv6_tot
  have hek : m.env.length = en := Hrm.out.2.2.2.2.1.1
  have hsk : m.sys.length = sn := Hrm.out.2.2.2.2.2.1.1
  refine amore_region1 (N := N) (B := B) (m := m) (c := c) (env := env) (x := ⟨⟨vA, vn, vc⟩, ⟨io, im, iA, il, ic⟩, ⟨jo, jm, jA, jl, jc⟩, ⟨eA, en, ec⟩, ⟨sA, sn, sc⟩, ⟨aA, an, ac⟩, ⟨nA, nn, nc⟩, ⟨pA, pn, pc⟩⟩) (y := ⟨⟨co, cn, cA, cl, cc⟩, ⟨tA, tn, tc⟩⟩) (by kernel_rfl) (by kernel_rfl) (by kernel_rfl) (by kernel_rfl) ⟨_, _, _, rfl⟩ ⟨_, _, _, rfl⟩ ⟨_, _, _, rfl⟩ ⟨_, _, _, rfl⟩ ⟨_, _, _, rfl⟩ ⟨_, _, _, rfl⟩ ⟨_, _, _, rfl⟩ ⟨_, _, _, rfl⟩ ⟨_, _, _, rfl⟩ ⟨_, _, _, rfl⟩ ⟨_, _, _, rfl⟩ ⟨_, _, _, rfl⟩ ⟨_, _, _, rfl⟩ ⟨_, _, _, rfl⟩ ⟨_, _, _, rfl⟩ ⟨_, _, _, rfl⟩ ⟨_, _, _, rfl⟩ ⟨_, _, _, rfl⟩ ⟨_, _, _, rfl⟩ ⟨_, _, _, rfl⟩ ⟨_, _, _, rfl⟩ ⟨_, _, _, rfl⟩ ⟨_, _, _, rfl⟩ ⟨_, _, _, rfl⟩ ⟨_, _, _, rfl⟩ ⟨_, _, _, rfl⟩ ⟨_, _, _, rfl⟩ ⟨_, _, _, rfl⟩ ⟨_, _, _, rfl⟩ ⟨_, _, _, rfl⟩ ⟨_, _, _, rfl⟩ ⟨_, _, _, rfl⟩ ⟨_, _, _, rfl⟩ (by simp) rfl rfl rfl (by omega) Hrm.out Hrc.out (mV_box Hrow0.out) Hm1.out (by omega) ?_
  intro u w1 hu hb1
  have hz1 := hb1.size
  simp only [sel_cons, sel_nil, Act.put, List.setIfInBounds_toArray, List.set_cons_zero, List.set_cons_succ]
  rw [hu]
  generalize u 17 = u17
  generalize u 18 = u18
  generalize u 19 = u19
  generalize u 20 = u20
  generalize u 21 = u21
  generalize u 22 = u22
  generalize u 23 = u23
  generalize u 24 = u24
  generalize u 25 = u25
  generalize u 26 = u26
  generalize u 27 = u27
  generalize u 28 = u28
  generalize u 29 = u29
  generalize u 30 = u30
  generalize u 31 = u31
  generalize u 32 = u32
  generalize u 33 = u33
  generalize u 34 = u34
  generalize u 35 = u35
  generalize u 36 = u36
  generalize u 37 = u37
  generalize u 38 = u38
  generalize u 39 = u39
  generalize u 40 = u40
  generalize u 41 = u41
  generalize u 42 = u42
  generalize u 43 = u43
  generalize u 44 = u44
  generalize u 45 = u45
  generalize u 46 = u46
  generalize u 47 = u47
  generalize u 48 = u48
  clear hu u
  have Hb1 := hide (Hb0.out.trans (hb1.mono (by omega)))
  have Hrm1 := hide (Hrm.out.below (hb1.mono (by omega)))
  have Hrc1 := hide (Hrc.out.below (hb1.mono (by omega)))
  have Hrow1 := hide (Hrow0.out.of_block (hb1.block N (by omega)))
  have Hm11 := hide ((hb1.block (N + 1) (by omega)).trans Hm1.out)
  clear hb1 Hb0 Hrm Hrc Hrow0 Hm1
  have Hn0 : Hid (0 ≤ hv6 m ∧ 0 ≤ hv6 (dT c)) := hide ⟨(hv6_bd m).1, (hv6_bd (dT c)).1⟩
  cases hbb : (decide (0 < hv6 m + hv6 (dT c)) || (modE m != 0) || (cmdE m.vars c env != 0) || decide (12 ≤ en) || decide (12 ≤ sn))
  case true =>
    go_wp2_with fail
    refine (awake_any _).mono ?_
    rintro e y1 ⟨rfl, hby⟩
    go_wp2_with fail
    go_ret
    exact ⟨rfl, by rw [hN]; exact Hb1.out.trans (hby.mono (by omega))⟩
  case false =>
    simp only [Bool.or_eq_false_iff, decide_eq_false_iff_not, bne_eq_false_iff_eq] at hbb
    obtain ⟨⟨⟨⟨g1, g2⟩, g3⟩, g4⟩, g5⟩ := hbb
    have hT : totN m ≤ 24 := Htot.out (by have := Hn0.out; omega)
    have Hok : Hid (modE (moreM m c env) = 0) := hide (more_ok g2 g3 (by omega) (by omega))
    have Hsu : Hid (∀ x y, y ∈ succV m x → y ∈ succV (moreM m c env) x) := hide (fun x y h => more_succ g2 Hok.out h)
    have hT2 : totN (moreM m c env) ≤ 24 := by rw [more_tot]; exact hT
    have Hc := hide g2
    clear g1 g2 g3 Htot Hn0
    have hw2 := (Below.refl w1.heap.size w1).alloc (Nat.le_refl _) (.cells #[.slice vA vn vc, .int .i64 io, .int .i64 im, .slice iA il ic, .int .i64 jo, .int .i64 jm, .slice jA jl jc, .slice eA en ec, .slice sA sn sc, .slice aA an ac, .slice nA nn nc, .slice pA pn pc] 28)
    have Hb2 := hide (Hb1.out.trans (hw2.mono (by omega)))
    have Hrm2 := hide (Hrm1.out.below (hw2.mono (by omega)))
    have Hrc2 := hide (Hrc1.out.below (hw2.mono (by omega)))
    have Hrow2 := hide (Hrow1.out.of_block (hw2.block N (by omega)))
    have Hm12 := hide ((hw2.block (N + 1) (by omega)).trans Hm11.out)
    have Hp2 : Hid ((w1.alloc (.cells #[.slice vA vn vc, .int .i64 io, .int .i64 im, .slice iA il ic, .int .i64 jo, .int .i64 jm, .slice jA jl jc, .slice eA en ec, .slice sA sn sc, .slice aA an ac, .slice nA nn nc, .slice pA pn pc] 28)).rowIs w1.heap.size 28 12 (mV ⟨⟨vA, vn, vc⟩, ⟨io, im, iA, il, ic⟩, ⟨jo, jm, jA, jl, jc⟩, ⟨eA, en, ec⟩, ⟨sA, sn, sc⟩, ⟨aA, an, ac⟩, ⟨nA, nn, nc⟩, ⟨pA, pn, pc⟩⟩)) := hide (mV_new w1 ⟨⟨vA, vn, vc⟩, ⟨io, im, iA, il, ic⟩, ⟨jo, jm, jA, jl, jc⟩, ⟨eA, en, ec⟩, ⟨sA, sn, sc⟩, ⟨aA, an, ac⟩, ⟨nA, nn, nc⟩, ⟨pA, pn, pc⟩⟩)
    have hz2 : (w1.alloc (.cells #[.slice vA vn vc, .int .i64 io, .int .i64 im, .slice iA il ic, .int .i64 jo, .int .i64 jm, .slice jA jl jc, .slice eA en ec, .slice sA sn sc, .slice aA an ac, .slice nA nn nc, .slice pA pn pc] 28)).heap.size = w1.heap.size + 1 := by simp
    obtain ⟨q0, q1, q2, q3, q4, q5, q6, q7, q8, q9, q10, q11⟩ := row12 (mV_box Hrow1.out)
    simp only at q0 q1 q2 q3 q4 q5 q6 q7 q8 q9 q10 q11
    clear hw2
    cases env
    case true =>
      go_wp2_with fail
      clear q0 q1 q2 q3 q4 q5 q6 q7 q8 q9 q10 q11
      generalize w1.alloc (.cells #[.slice vA vn vc, .int .i64 io, .int .i64 im, .slice iA il ic, .int .i64 jo, .int .i64 jm, .slice jA jl jc, .slice eA en ec, .slice sA sn sc, .slice aA an ac, .slice nA nn nc, .slice pA pn pc] 28) = w2 at *
      generalize w1.heap.size = P at *
      obtain ⟨ks, hch, hcells⟩ := cmds_cellsA (Hrm2.out.2.2.2.2.1)
      have hlen : ks.flatten.length = en * 4 := by rw [hch.len]; rw [show m.env.length = en from Hrm2.out.2.2.2.2.1.1]
      have Hch := hide hch
      simp only at hcells
      clear hch
      refine amore_regionE (base := N) (nb := N) (cb := N + 1) (p0 := P) (x := ⟨⟨vA, vn, vc⟩, ⟨io, im, iA, il, ic⟩, ⟨jo, jm, jA, jl, jc⟩, ⟨eA, en, ec⟩, ⟨sA, sn, sc⟩, ⟨aA, an, ac⟩, ⟨nA, nn, nc⟩, ⟨pA, pn, pc⟩⟩) (op := co) (nn := cn) (A := cA) (len := cl) (cap := cc) (tA := tA) (tn := tn) (tc := tc) (lA := eA) (ln := en) (lc := ec) (xs := ks.flatten) (by kernel_rfl) (by kernel_rfl) (by kernel_rfl) (by kernel_rfl) ⟨_, _, _, rfl⟩ ⟨_, _, _, rfl⟩ ⟨_, _, _, rfl⟩ ⟨_, _, _, rfl⟩ ⟨_, _, _, rfl⟩ ⟨_, _, _, rfl⟩ ⟨_, _, _, rfl⟩ ⟨_, _, _, rfl⟩ ⟨_, _, _, rfl⟩ (by simp) rfl rfl rfl rfl ⟨blk Hm12.out rfl, blk Hm12.out rfl, blk Hm12.out rfl, blk Hm12.out rfl⟩ Hrow2.out Hp2.out ⟨by omega, by omega⟩ ⟨by omega, by omega⟩ ⟨by omega, by omega⟩ (by omega) hlen (fun h => rows_nilA (Hrm2.out.2.2.2.2.1) h) (fun ad h j u hu => by have := hcells ad h j u hu; exact ⟨by omega, this.2⟩) Hch.out.one (by omega) ?_
      intro u ga cpa w3 hr0 how hrN hcb3 hb3 hz3
      simp only [sel_cons, sel_nil, Act.put, List.setIfInBounds_toArray, List.set_cons_zero, List.set_cons_succ]
      generalize u 53 = u53
      generalize u 54 = u54
      generalize u 55 = u55
      generalize u 56 = u56
      generalize u 57 = u57
      generalize u 58 = u58
      generalize u 59 = u59
      generalize u 60 = u60
      clear u
      have Hb3 := hide (Hb2.out.trans hb3)
      have Hrm3 := hide (Hrm2.out.below (hb3.mono (by omega)))
      have hrc3 := Hrc2.out.below (hb3.mono (by omega))
      have HM3 : Hid (RM w3 w3.heap.size _ (moreM m c true)) := hide (rm_envA (Hrm3.out.more (B' := w3.heap.size) (by omega)) (cmds_moreA Hch.out (hb3.mono (by omega)) (by omega) how hrc3))
      have Hp3 := hide (row_envA (s := ⟨some ⟨ga, 0, none⟩, en + 1, cpa⟩) hr0)
      have Hrow3 := hide hrN
      simp only at HM3 Hp3
      clear hr0 how hrN hcb3 hb3 hrc3 hcells Hch hlen Hb1 Hrm1 Hrc1 Hrow1 Hm11 Hb2 Hrm2 Hrc2 Hrow2 Hm12 Hp2
      generalize (some ⟨ga, 0, none⟩ : Option Addr) = e2A at *
      generalize en + 1 = e2n at *
      have Har : Hid (Arena m (atL m) (nextL m)) := hide (arena_is hT)
      have Har2 : Hid (Arena (moreM m c true) (atL (moreM m c true)) (nextL (moreM m c true))) := hide (arena_is hT2)
      have Hsub : Hid (∀ (i : Nat) x, (atL m)[i]? = some x → x ∈ atL (moreM m c true)) := hide (at_sub Har.out Har2.out Hsu.out)
      have hll := at_len Har.out Har2.out Hsu.out
      have hT3 : totN (moreM m c true) ≤ 24 := hT2
      generalize moreM m c true = m2 at *
      clear hT2 Hsu
      obtain ⟨q0, q1, q2, q3, q4, q5, q6, q7, q8, q9, q10, q11⟩ := row12 (mV_box Hrow3.out)
      simp only at q0 q1 q2 q3 q4 q5 q6 q7 q8 q9 q10 q11
      go_wp2_with fail
      clear q0 q1 q2 q3 q4 q5 q6 q7 q8 q9 q10 q11
      refine (dbuild_any B ⟨⟨vA, vn, vc⟩, ⟨io, im, iA, il, ic⟩, ⟨jo, jm, jA, jl, jc⟩, ⟨eA, en, ec⟩, ⟨sA, sn, sc⟩, ⟨aA, an, ac⟩, ⟨nA, nn, nc⟩, ⟨pA, pn, pc⟩⟩ m w3 (by omega) Hrm3.out (fun _ => hT)).mono ?_
      rintro e w4 ⟨⟨OA, on, oc⟩, ⟨NA, nn2, nc2⟩, ⟨AA, L, ac2⟩, rfl, hrg, hrv, hb4⟩
      have hz4 := hb4.size
      have hL625 := ar_len hT
      have ha1 : arAt m = atL m := by unfold arAt; rw [if_pos Hc.out]
      have ha2 : arNxt m = nextL m := by unfold arNxt; rw [if_pos Hc.out]
      have ha3 : arOwn m = (atL m).map ownV := by unfold arOwn; rw [ha1]
      rw [ha1] at hrv
      rw [ha2, ha3] at hrg
      have hLl : (atL m).length = L := hrv.1
      obtain rfl : L = on := by have := hrg.own.len; simp at this; omega
      obtain rfl : L = nn2 := by have := hrg.nxt.len; have h2 := Har.out.len; simp only at this; omega
      have Hmay : Hid (Gr.mayG ⟨(atL m).map ownV, nextL m⟩ = 0) := hide (Har.out.may (by have := Har.out.pos; omega))
      generalize atL m = ats at *
      generalize nextL m = nxs at *
      have hL2 : L ≤ 625 := by omega
      have hbox := (Below.refl w4.heap.size w4).alloc (Nat.le_refl _) (.cells #[.slice OA L oc, .slice NA L nc2, .slice AA L ac2] 38)
      have Hrg := hide ((hrg.below hbox).more (Nat.le_succ _))
      have Hrv := hide ((hrv.below hbox).more (Nat.le_succ _))
      have Hb5 := hide ((Hb3.out.trans (hb4.mono (by omega))).trans (hbox.mono (by omega)))
      have HM5 := hide ((HM3.out.below (hb4.mono (by omega))).below (hbox.mono (by omega)))
      have Hp5 := hide ((Hp3.out.of_block (hb4.block P (by omega))).of_block (hbox.block P (by omega)))
      have Hk := hide (box3_cells (heap_alloc_new w4 (.cells #[.slice OA L oc, .slice NA L nc2, .slice AA L ac2] 38)))
      have hz5 : (w4.alloc (.cells #[.slice OA L oc, .slice NA L nc2, .slice AA L ac2] 38)).heap.size = w4.heap.size + 1 := by simp
      have hme : (modE m != 0) = false := by rw [Hc.out]; rfl
      have Hlen : Hid (ats.length = L) := hide hLl
      simp only [Gr.SL.v, SL.v] at *
      clear hrg hrv hb4 hbox ha1 ha2 ha3 Hb3 Hrm3 Hrow3 HM3 Hp3 hL625
      obtain ⟨q0, q1, q2, q3, q4, q5, q6, q7, q8, q9, q10, q11⟩ := row12 (mV_box Hp5.out)
      simp only at q0 q1 q2 q3 q4 q5 q6 q7 q8 q9 q10 q11
      obtain ⟨k0, k1, k2, _⟩ := Hk.out
      go_wp2_with fail
      clear q0 q1 q2 q3 q4 q5 q6 q7 q8 q9 q10 q11 k0 k1 k2
      generalize w4.alloc (.cells #[.slice OA L oc, .slice NA L nc2, .slice AA L ac2] 38) = w5 at *
      generalize w4.heap.size = Q at *
      refine (dbuild_any w3.heap.size ⟨⟨vA, vn, vc⟩, ⟨io, im, iA, il, ic⟩, ⟨jo, jm, jA, jl, jc⟩, ⟨e2A, e2n, cpa⟩, ⟨sA, sn, sc⟩, ⟨aA, an, ac⟩, ⟨nA, nn, nc⟩, ⟨pA, pn, pc⟩⟩ m2 w5 (by omega) HM5.out (fun _ => hT3)).mono ?_
      rintro e w6 ⟨⟨O2, on2, oc2⟩, ⟨N2, nn3, nc3⟩, ⟨A2, L2, ac3⟩, rfl, hrg, hrv, hb6⟩
      have hz6 := hb6.size
      have hL625 := ar_len hT3
      have ha1 : arAt m2 = atL m2 := by unfold arAt; rw [if_pos Hok.out]
      rw [ha1] at hrv
      have hLl2 : (atL m2).length = L2 := hrv.1
      generalize atL m2 = at2 at *
      have hL3 : L2 ≤ 625 := by omega
      have hbox := (Below.refl w6.heap.size w6).alloc (Nat.le_refl _) (.cells #[.slice O2 on2 oc2, .slice N2 nn3 nc3, .slice A2 L2 ac3] 38)
      have Hrv2 := hide ((hrv.below hbox).more (Nat.le_succ _))
      have Hrg7 := hide ((Hrg.out.below (hb6.mono (by omega))).below (hbox.mono (by omega)))
      have Hrv7 := hide ((Hrv.out.below (hb6.mono (by omega))).below (hbox.mono (by omega)))
      have Hb7 := hide ((Hb5.out.trans (hb6.mono (by omega))).trans (hbox.mono (by omega)))
      have Hk70 := hide ((hbox.cell (p := ⟨Q, 0, none⟩) (by show Q < _; omega)).trans ((hb6.cell (p := ⟨Q, 0, none⟩) (by show Q < _; omega)).trans Hk.out.1))
      have Hk71 := hide ((hbox.cell (p := ⟨Q, 1, none⟩) (by show Q < _; omega)).trans ((hb6.cell (p := ⟨Q, 1, none⟩) (by show Q < _; omega)).trans Hk.out.2.1))
      have Hk72 := hide ((hbox.cell (p := ⟨Q, 2, none⟩) (by show Q < _; omega)).trans ((hb6.cell (p := ⟨Q, 2, none⟩) (by show Q < _; omega)).trans Hk.out.2.2.1))
      have Hk2 := hide (box3_cells (heap_alloc_new w6 (.cells #[.slice O2 on2 oc2, .slice N2 nn3 nc3, .slice A2 L2 ac3] 38))).2.2.1
      have hz7 : (w6.alloc (.cells #[.slice O2 on2 oc2, .slice N2 nn3 nc3, .slice A2 L2 ac3] 38)).heap.size = w6.heap.size + 1 := by simp
      have hme2 : (modE m2 != 0) = false := by rw [Hok.out]; rfl
      have Hlen2 : Hid (at2.length = L2) := hide hLl2
      have hle1 : ¬ ((L2 : Int) < (L : Int)) := by omega
      have hle2 : decide ((L2 : Int) < (L : Int)) = false := by simp; omega
      have hmm := @run_makeMap Tryz.prog
      have Hmap8 := hide (World.ownsMap_made (H := Unit) (w6.alloc (.cells #[.slice O2 on2 oc2, .slice N2 nn3 nc3, .slice A2 L2 ac3] 38)) Tryz.prog 57 (plainElem Tryz.prog 3))
      have hb8 := (Below.refl (w6.alloc (.cells #[.slice O2 on2 oc2, .slice N2 nn3 nc3, .slice A2 L2 ac3] 38)).heap.size (w6.alloc (.cells #[.slice O2 on2 oc2, .slice N2 nn3 nc3, .slice A2 L2 ac3] 38))).alloc (Nat.le_refl _) (.map #[] 0)
      have hz8 : ((w6.alloc (.cells #[.slice O2 on2 oc2, .slice N2 nn3 nc3, .slice A2 L2 ac3] 38)).alloc (.map #[] 0)).heap.size = w6.heap.size + 2 := by simp
      have k72 := Hk72.out
      have kq2 := Hk2.out
      have kq8 := (hb8.cell (p := ⟨w6.heap.size, 2, none⟩) (by show w6.heap.size < _; omega)).trans Hk2.out
      have Hb8 := hide (Hb7.out.trans (hb8.mono (by omega)))
      have Hrv28 := hide (Hrv2.out.below (hb8.mono (by omega)))
      have Hrg8 := hide (Hrg7.out.below (hb8.mono (by omega)))
      have Hrv8 := hide (Hrv7.out.below (hb8.mono (by omega)))
      have Hk80 := hide ((hb8.cell (p := ⟨Q, 0, none⟩) (by show Q < _; omega)).trans Hk70.out)
      have Hk81 := hide ((hb8.cell (p := ⟨Q, 1, none⟩) (by show Q < _; omega)).trans Hk71.out)
      have Hk82 := hide ((hb8.cell (p := ⟨Q, 2, none⟩) (by show Q < _; omega)).trans Hk72.out)
      have Hkq8 := hide kq8
      simp only [Gr.SL.v, SL.v] at *
      clear hrg hrv hb6 hbox hb8 ha1 Hb5 HM5 Hp5 Hk Hrg Hrv hL625 Hk70 Hk71 Hk72 Hk2 Hrv2 Hrg7 Hrv7 Hb7
      go_wp2_with fail
      clear k72 kq2 kq8 hmm hme hme2 hle1 hle2
      generalize hw8 : (w6.alloc (.cells #[.slice O2 on2 oc2, .slice N2 nn3 nc3, .slice A2 L2 ac3] 38)).alloc (.map #[] 0) = w8 at *
      clear hw8
      rw [hz7] at Hmap8
      generalize w6.heap.size = R at *
      try rw [hz7]
      clear hz7
      go_loopw [98] (fun i wr => ∃ (k n : Nat) (D : DataW Unit), k ≤ L2 ∧ i = .int .i64 k ∧ n ≤ k ∧ wr.ownsMap Tryz.prog 57 (plainElem Tryz.prog 3) (R + 1) n D ∧ Hid (VMark D (at2.take k)) ∧ Hid (Below (R + 1) w8 wr)) (fun i _ => L2 - (intOf i).toNat)
      case atStart => exact ⟨0, 0, .map [], by omega, rfl, by omega, Hmap8.out, hide VMark.start, hide (Below.refl _ _)⟩
      case round =>
        obtain ⟨k, n, D, hk, rfl, hn, hmap, Hmk, Hbl⟩ := hrel
        have hzr := Hbl.out.size
        have kqr : wr.cell? ⟨R, 2, none⟩ = some (.slice A2 L2 ac3) := (Hbl.out.cell (p := ⟨R, 2, none⟩) (by show R < _; omega)).trans Hkq8.out
        by_cases hlt : k < L2
        · have hlt' : ((k : Int) < (L2 : Int)) := by omega
          obtain ⟨pb, po, p, q, r, ePs, hpb, hpk, cp, cq, cr⟩ := RVx.at_ (Hrv28.out.below (Hbl.out.mono (by omega))) hlt
          subst ePs
          have hokx := Har2.out.ok _ (List.mem_of_getElem? hpk)
          have Hsm := hide (okV_sm (by omega) hokx)
          have Hkey := hide (key_of Hsm.out)
          have Htk : Hid (at2.take (k + 1) = at2.take k ++ [(p, q, r)]) := hide (by rw [List.take_add_one, hpk]; rfl)
          have HmapA := hide (hmap.alloc (.cells #[.int .i64 p, .int .i64 q, .int .i64 r] 57))
          obtain ⟨d0, d1, d2⟩ := box57 wr p q r 57
          have hzM : R + 1 < wr.heap.size := by omega
          have HbA := hide ((Below.refl wr.heap.size wr).alloc (Nat.le_refl _) (.cells #[.int .i64 p, .int .i64 q, .int .i64 r] 57))
          have hzA : (wr.alloc (.cells #[.int .i64 p, .int .i64 q, .int .i64 r] 57)).heap.size = wr.heap.size + 1 := by simp
          have Hlt := hide hlt
          clear hmap hpk hokx
          go_wp2_with (first
            | (at_mapUpdate; refine wpList_mapUpdate_own _ rfl _ _ _ 55 rfl 57 3 lawVx Tryz.underlying55 _ (R + 1) n D rfl HmapA.out (by unfold maxLen; omega) _ _ _ rfl rfl Hkey.out _ [] (plainElem_int Tryz.underlying3 (WalkArith.wf_i64 (by omega))) ?_; intro w9 hown9 hg9; have Hg9 := hide hg9; have Hown9 := hide hown9; clear hg9 hown9)
            | go_in)
          have Hisq := hide HmapA.out.isMap
          go_roundw
          case rel => exact ⟨k + 1, n + 1, _, by have := Hlt.out; omega, by go_num, by omega, Hown9.out, hide (by rw [Htk.out]; exact Hmk.out.put Hisq.out Hsm.out), hide ((Hbl.out.trans (HbA.out.mono (by omega))).grown Hg9.out (by omega) (fun z hz => by injection hz with hz; omega))⟩
          case measure => have := Hlt.out; simp [intOf]; omega
        · have hlt' : ¬ ((k : Int) < (L2 : Int)) := by omega
          obtain rfl : k = L2 := by omega
          have Hmk2 : Hid (VMark D at2) := hide (by have := Hmk.out; rwa [List.take_of_length_le (by rw [Hlen2.out]; exact Nat.le_refl _)] at this)
          have Hmap := hide hmap
          have Hrgr := hide (Hrg8.out.below (Hbl.out.mono (by omega)))
          have Hrvr := hide (Hrv8.out.below (Hbl.out.mono (by omega)))
          have Hk0r := hide ((Hbl.out.cell (p := ⟨Q, 0, none⟩) (by show Q < _; omega)).trans Hk80.out)
          have Hk1r := hide ((Hbl.out.cell (p := ⟨Q, 1, none⟩) (by show Q < _; omega)).trans Hk81.out)
          have Hk2r := hide ((Hbl.out.cell (p := ⟨Q, 2, none⟩) (by show Q < _; omega)).trans Hk82.out)
          have Hbr := hide (Hb8.out.trans (Hbl.out.mono (by omega)))
          have k2r := Hk2r.out
          clear Hmk hmap hlt Hrg8 Hrv8 Hk80 Hk81 Hk82 Hb8 Hrv28
          go_wp2_with fail
          clear k2r kqr hlt'
          have hlenL : ats.length = L := Hlen.out
          obtain ⟨wv, rfl⟩ : ∃ wv, wv = wr := ⟨_, rfl⟩
          go_loopw [108] (fun i wz => ∃ (j : Nat), j ≤ L ∧ i = .int .i64 j ∧ Hid (Below wv.heap.size wv wz)) (fun i _ => L - (intOf i).toNat)
          case atStart => exact ⟨0, by omega, rfl, hide (Below.refl _ _)⟩
          case round =>
            obtain ⟨j, hj, rfl, Hwz⟩ := hrel
            have hzz := Hwz.out.size
            by_cases hlt2 : j < L
            · have hlt2' : ((j : Int) < (L : Int)) := by omega
              obtain ⟨pb, po, p, q, r, ePs, hpb, hpk, cp, cq, cr⟩ := RVx.at_ (Hrvr.out.below (Hwz.out.mono (by omega))) hlt2
              subst ePs
              have Hin := hide (Hsub.out j _ hpk)
              have hokx := Har.out.ok _ (List.mem_of_getElem? hpk)
              have Hsm := hide (okV_sm (by omega) hokx)
              have Hkey := hide (key_of Hsm.out)
              have HmapA := hide ((hown_below Hmap.out Hwz.out).alloc (.cells #[.int .i64 p, .int .i64 q, .int .i64 r] 57))
              obtain ⟨d0, d1, d2⟩ := box57 wr p q r 57
              have HbA := hide ((Below.refl wr.heap.size wr).alloc (Nat.le_refl _) (.cells #[.int .i64 p, .int .i64 q, .int .i64 r] 57))
              have Hj := hide hlt2
              clear hpk hokx
              go_wp2_with (first
                | (at_lookup; refine wpList_lookup_own_int _ rfl _ _ 55 rfl 57 3 .i64 lawVx Tryz.underlying55 Tryz.underlying3 (zero3A _) (R + 1) n D rfl HmapA.out _ _ rfl Hkey.out ?_; intro c hat hwc; obtain rfl := mark_yes Hmk2.out Hsm.out Hin.out hat; clear hat hwc)
                | go_in)
              go_roundw
              case rel => exact ⟨j + 1, by have := Hj.out; omega, by go_num, hide (Hwz.out.trans (HbA.out.mono (by omega)))⟩
              case measure => have := Hj.out; simp [intOf]; omega
            · have hlt2' : ¬ ((j : Int) < (L : Int)) := by omega
              obtain rfl : j = L := by omega
              have k0z := (Hwz.out.cell (p := ⟨Q, 0, none⟩) (by show Q < _; omega)).trans Hk0r.out
              have k1z := (Hwz.out.cell (p := ⟨Q, 1, none⟩) (by show Q < _; omega)).trans Hk1r.out
              have Hbz := hide (Hbr.out.trans (Hwz.out.mono (by omega)))
              go_wp2_with fail
              clear k0z k1z
              refine (Gr.rmay_any (Q + 1) OA NA j oc j nc2 ⟨ats.map ownV, nxs⟩ wr (by omega) (Hrgr.out.below (Hwz.out.mono (by omega)))).mono ?_
              rw [Hmay.out]
              rintro e w11 ⟨rfl, hb11⟩
              have hz11 := hb11.size
              have Hb11 := hide (Hbz.out.trans (hb11.mono (by omega)))
              clear hb11 Hbz
              go_wp2_with fail
              refine (awake_any _).mono ?_
              rintro e y1 ⟨rfl, hby⟩
              go_wp2_with fail
              go_ret
              exact ⟨rfl, by rw [hN]; exact Hb11.out.trans (hby.mono (by omega))⟩
    case false =>
      go_wp2_with fail
      clear q0 q1 q2 q3 q4 q5 q6 q7 q8 q9 q10 q11
      generalize w1.alloc (.cells #[.slice vA vn vc, .int .i64 io, .int .i64 im, .slice iA il ic, .int .i64 jo, .int .i64 jm, .slice jA jl jc, .slice eA en ec, .slice sA sn sc, .slice aA an ac, .slice nA nn nc, .slice pA pn pc] 28) = w2 at *
      generalize w1.heap.size = P at *
      obtain ⟨ks, hch, hcells⟩ := cmds_cellsA (Hrm2.out.2.2.2.2.2.1)
      have hlen : ks.flatten.length = sn * 4 := by rw [hch.len]; rw [show m.sys.length = sn from Hrm2.out.2.2.2.2.2.1.1]
      have Hch := hide hch
      simp only at hcells
      clear hch
      refine amore_regionS (base := N) (nb := N) (cb := N + 1) (p0 := P) (x := ⟨⟨vA, vn, vc⟩, ⟨io, im, iA, il, ic⟩, ⟨jo, jm, jA, jl, jc⟩, ⟨eA, en, ec⟩, ⟨sA, sn, sc⟩, ⟨aA, an, ac⟩, ⟨nA, nn, nc⟩, ⟨pA, pn, pc⟩⟩) (op := co) (nn := cn) (A := cA) (len := cl) (cap := cc) (tA := tA) (tn := tn) (tc := tc) (lA := sA) (ln := sn) (lc := sc) (xs := ks.flatten) (by kernel_rfl) (by kernel_rfl) (by kernel_rfl) (by kernel_rfl) ⟨_, _, _, rfl⟩ ⟨_, _, _, rfl⟩ ⟨_, _, _, rfl⟩ ⟨_, _, _, rfl⟩ ⟨_, _, _, rfl⟩ ⟨_, _, _, rfl⟩ ⟨_, _, _, rfl⟩ ⟨_, _, _, rfl⟩ ⟨_, _, _, rfl⟩ (by simp) rfl rfl rfl rfl ⟨blk Hm12.out rfl, blk Hm12.out rfl, blk Hm12.out rfl, blk Hm12.out rfl⟩ Hrow2.out Hp2.out ⟨by omega, by omega⟩ ⟨by omega, by omega⟩ ⟨by omega, by omega⟩ (by omega) hlen (fun h => rows_nilA (Hrm2.out.2.2.2.2.2.1) h) (fun ad h j u hu => by have := hcells ad h j u hu; exact ⟨by omega, this.2⟩) Hch.out.one (by omega) ?_
      intro u ga cpa w3 hr0 how hrN hcb3 hb3 hz3
      simp only [sel_cons, sel_nil, Act.put, List.setIfInBounds_toArray, List.set_cons_zero, List.set_cons_succ]
      generalize u 61 = u61
      generalize u 62 = u62
      generalize u 63 = u63
      generalize u 64 = u64
      generalize u 65 = u65
      generalize u 66 = u66
      generalize u 67 = u67
      generalize u 68 = u68
      clear u
      have Hb3 := hide (Hb2.out.trans hb3)
      have Hrm3 := hide (Hrm2.out.below (hb3.mono (by omega)))
      have hrc3 := Hrc2.out.below (hb3.mono (by omega))
      have HM3 : Hid (RM w3 w3.heap.size _ (moreM m c false)) := hide (rm_sysA (Hrm3.out.more (B' := w3.heap.size) (by omega)) (cmds_moreA Hch.out (hb3.mono (by omega)) (by omega) how hrc3))
      have Hp3 := hide (row_sysA (s := ⟨some ⟨ga, 0, none⟩, sn + 1, cpa⟩) hr0)
      have Hrow3 := hide hrN
      simp only at HM3 Hp3
      clear hr0 how hrN hcb3 hb3 hrc3 hcells Hch hlen Hb1 Hrm1 Hrc1 Hrow1 Hm11 Hb2 Hrm2 Hrc2 Hrow2 Hm12 Hp2
      generalize (some ⟨ga, 0, none⟩ : Option Addr) = e2A at *
      generalize sn + 1 = e2n at *
      have Har : Hid (Arena m (atL m) (nextL m)) := hide (arena_is hT)
      have Har2 : Hid (Arena (moreM m c false) (atL (moreM m c false)) (nextL (moreM m c false))) := hide (arena_is hT2)
      have Hsub : Hid (∀ (i : Nat) x, (atL m)[i]? = some x → x ∈ atL (moreM m c false)) := hide (at_sub Har.out Har2.out Hsu.out)
      have hll := at_len Har.out Har2.out Hsu.out
      have hT3 : totN (moreM m c false) ≤ 24 := hT2
      generalize moreM m c false = m2 at *
      clear hT2 Hsu
      obtain ⟨q0, q1, q2, q3, q4, q5, q6, q7, q8, q9, q10, q11⟩ := row12 (mV_box Hrow3.out)
      simp only at q0 q1 q2 q3 q4 q5 q6 q7 q8 q9 q10 q11
      go_wp2_with fail
      clear q0 q1 q2 q3 q4 q5 q6 q7 q8 q9 q10 q11
      refine (dbuild_any B ⟨⟨vA, vn, vc⟩, ⟨io, im, iA, il, ic⟩, ⟨jo, jm, jA, jl, jc⟩, ⟨eA, en, ec⟩, ⟨sA, sn, sc⟩, ⟨aA, an, ac⟩, ⟨nA, nn, nc⟩, ⟨pA, pn, pc⟩⟩ m w3 (by omega) Hrm3.out (fun _ => hT)).mono ?_
      rintro e w4 ⟨⟨OA, on, oc⟩, ⟨NA, nn2, nc2⟩, ⟨AA, L, ac2⟩, rfl, hrg, hrv, hb4⟩
      have hz4 := hb4.size
      have hL625 := ar_len hT
      have ha1 : arAt m = atL m := by unfold arAt; rw [if_pos Hc.out]
      have ha2 : arNxt m = nextL m := by unfold arNxt; rw [if_pos Hc.out]
      have ha3 : arOwn m = (atL m).map ownV := by unfold arOwn; rw [ha1]
      rw [ha1] at hrv
      rw [ha2, ha3] at hrg
      have hLl : (atL m).length = L := hrv.1
      obtain rfl : L = on := by have := hrg.own.len; simp at this; omega
      obtain rfl : L = nn2 := by have := hrg.nxt.len; have h2 := Har.out.len; simp only at this; omega
      have Hmay : Hid (Gr.mayG ⟨(atL m).map ownV, nextL m⟩ = 0) := hide (Har.out.may (by have := Har.out.pos; omega))
      generalize atL m = ats at *
      generalize nextL m = nxs at *
      have hL2 : L ≤ 625 := by omega
      have hbox := (Below.refl w4.heap.size w4).alloc (Nat.le_refl _) (.cells #[.slice OA L oc, .slice NA L nc2, .slice AA L ac2] 38)
      have Hrg := hide ((hrg.below hbox).more (Nat.le_succ _))
      have Hrv := hide ((hrv.below hbox).more (Nat.le_succ _))
      have Hb5 := hide ((Hb3.out.trans (hb4.mono (by omega))).trans (hbox.mono (by omega)))
      have HM5 := hide ((HM3.out.below (hb4.mono (by omega))).below (hbox.mono (by omega)))
      have Hp5 := hide ((Hp3.out.of_block (hb4.block P (by omega))).of_block (hbox.block P (by omega)))
      have Hk := hide (box3_cells (heap_alloc_new w4 (.cells #[.slice OA L oc, .slice NA L nc2, .slice AA L ac2] 38)))
      have hz5 : (w4.alloc (.cells #[.slice OA L oc, .slice NA L nc2, .slice AA L ac2] 38)).heap.size = w4.heap.size + 1 := by simp
      have hme : (modE m != 0) = false := by rw [Hc.out]; rfl
      have Hlen : Hid (ats.length = L) := hide hLl
      simp only [Gr.SL.v, SL.v] at *
      clear hrg hrv hb4 hbox ha1 ha2 ha3 Hb3 Hrm3 Hrow3 HM3 Hp3 hL625
      obtain ⟨q0, q1, q2, q3, q4, q5, q6, q7, q8, q9, q10, q11⟩ := row12 (mV_box Hp5.out)
      simp only at q0 q1 q2 q3 q4 q5 q6 q7 q8 q9 q10 q11
      obtain ⟨k0, k1, k2, _⟩ := Hk.out
      go_wp2_with fail
      clear q0 q1 q2 q3 q4 q5 q6 q7 q8 q9 q10 q11 k0 k1 k2
      generalize w4.alloc (.cells #[.slice OA L oc, .slice NA L nc2, .slice AA L ac2] 38) = w5 at *
      generalize w4.heap.size = Q at *
      refine (dbuild_any w3.heap.size ⟨⟨vA, vn, vc⟩, ⟨io, im, iA, il, ic⟩, ⟨jo, jm, jA, jl, jc⟩, ⟨eA, en, ec⟩, ⟨e2A, e2n, cpa⟩, ⟨aA, an, ac⟩, ⟨nA, nn, nc⟩, ⟨pA, pn, pc⟩⟩ m2 w5 (by omega) HM5.out (fun _ => hT3)).mono ?_
      rintro e w6 ⟨⟨O2, on2, oc2⟩, ⟨N2, nn3, nc3⟩, ⟨A2, L2, ac3⟩, rfl, hrg, hrv, hb6⟩
      have hz6 := hb6.size
      have hL625 := ar_len hT3
      have ha1 : arAt m2 = atL m2 := by unfold arAt; rw [if_pos Hok.out]
      rw [ha1] at hrv
      have hLl2 : (atL m2).length = L2 := hrv.1
      generalize atL m2 = at2 at *
      have hL3 : L2 ≤ 625 := by omega
      have hbox := (Below.refl w6.heap.size w6).alloc (Nat.le_refl _) (.cells #[.slice O2 on2 oc2, .slice N2 nn3 nc3, .slice A2 L2 ac3] 38)
      have Hrv2 := hide ((hrv.below hbox).more (Nat.le_succ _))
      have Hrg7 := hide ((Hrg.out.below (hb6.mono (by omega))).below (hbox.mono (by omega)))
      have Hrv7 := hide ((Hrv.out.below (hb6.mono (by omega))).below (hbox.mono (by omega)))
      have Hb7 := hide ((Hb5.out.trans (hb6.mono (by omega))).trans (hbox.mono (by omega)))
      have Hk70 := hide ((hbox.cell (p := ⟨Q, 0, none⟩) (by show Q < _; omega)).trans ((hb6.cell (p := ⟨Q, 0, none⟩) (by show Q < _; omega)).trans Hk.out.1))
      have Hk71 := hide ((hbox.cell (p := ⟨Q, 1, none⟩) (by show Q < _; omega)).trans ((hb6.cell (p := ⟨Q, 1, none⟩) (by show Q < _; omega)).trans Hk.out.2.1))
      have Hk72 := hide ((hbox.cell (p := ⟨Q, 2, none⟩) (by show Q < _; omega)).trans ((hb6.cell (p := ⟨Q, 2, none⟩) (by show Q < _; omega)).trans Hk.out.2.2.1))
      have Hk2 := hide (box3_cells (heap_alloc_new w6 (.cells #[.slice O2 on2 oc2, .slice N2 nn3 nc3, .slice A2 L2 ac3] 38))).2.2.1
      have hz7 : (w6.alloc (.cells #[.slice O2 on2 oc2, .slice N2 nn3 nc3, .slice A2 L2 ac3] 38)).heap.size = w6.heap.size + 1 := by simp
      have hme2 : (modE m2 != 0) = false := by rw [Hok.out]; rfl
      have Hlen2 : Hid (at2.length = L2) := hide hLl2
      have hle1 : ¬ ((L2 : Int) < (L : Int)) := by omega
      have hle2 : decide ((L2 : Int) < (L : Int)) = false := by simp; omega
      have hmm := @run_makeMap Tryz.prog
      have Hmap8 := hide (World.ownsMap_made (H := Unit) (w6.alloc (.cells #[.slice O2 on2 oc2, .slice N2 nn3 nc3, .slice A2 L2 ac3] 38)) Tryz.prog 57 (plainElem Tryz.prog 3))
      have hb8 := (Below.refl (w6.alloc (.cells #[.slice O2 on2 oc2, .slice N2 nn3 nc3, .slice A2 L2 ac3] 38)).heap.size (w6.alloc (.cells #[.slice O2 on2 oc2, .slice N2 nn3 nc3, .slice A2 L2 ac3] 38))).alloc (Nat.le_refl _) (.map #[] 0)
      have hz8 : ((w6.alloc (.cells #[.slice O2 on2 oc2, .slice N2 nn3 nc3, .slice A2 L2 ac3] 38)).alloc (.map #[] 0)).heap.size = w6.heap.size + 2 := by simp
      have k72 := Hk72.out
      have kq2 := Hk2.out
      have kq8 := (hb8.cell (p := ⟨w6.heap.size, 2, none⟩) (by show w6.heap.size < _; omega)).trans Hk2.out
      have Hb8 := hide (Hb7.out.trans (hb8.mono (by omega)))
      have Hrv28 := hide (Hrv2.out.below (hb8.mono (by omega)))
      have Hrg8 := hide (Hrg7.out.below (hb8.mono (by omega)))
      have Hrv8 := hide (Hrv7.out.below (hb8.mono (by omega)))
      have Hk80 := hide ((hb8.cell (p := ⟨Q, 0, none⟩) (by show Q < _; omega)).trans Hk70.out)
      have Hk81 := hide ((hb8.cell (p := ⟨Q, 1, none⟩) (by show Q < _; omega)).trans Hk71.out)
      have Hk82 := hide ((hb8.cell (p := ⟨Q, 2, none⟩) (by show Q < _; omega)).trans Hk72.out)
      have Hkq8 := hide kq8
      simp only [Gr.SL.v, SL.v] at *
      clear hrg hrv hb6 hbox hb8 ha1 Hb5 HM5 Hp5 Hk Hrg Hrv hL625 Hk70 Hk71 Hk72 Hk2 Hrv2 Hrg7 Hrv7 Hb7
      go_wp2_with fail
      clear k72 kq2 kq8 hmm hme hme2 hle1 hle2
      generalize hw8 : (w6.alloc (.cells #[.slice O2 on2 oc2, .slice N2 nn3 nc3, .slice A2 L2 ac3] 38)).alloc (.map #[] 0) = w8 at *
      clear hw8
      rw [hz7] at Hmap8
      generalize w6.heap.size = R at *
      try rw [hz7]
      clear hz7
      go_loopw [98] (fun i wr => ∃ (k n : Nat) (D : DataW Unit), k ≤ L2 ∧ i = .int .i64 k ∧ n ≤ k ∧ wr.ownsMap Tryz.prog 57 (plainElem Tryz.prog 3) (R + 1) n D ∧ Hid (VMark D (at2.take k)) ∧ Hid (Below (R + 1) w8 wr)) (fun i _ => L2 - (intOf i).toNat)
      case atStart => exact ⟨0, 0, .map [], by omega, rfl, by omega, Hmap8.out, hide VMark.start, hide (Below.refl _ _)⟩
      case round =>
        obtain ⟨k, n, D, hk, rfl, hn, hmap, Hmk, Hbl⟩ := hrel
        have hzr := Hbl.out.size
        have kqr : wr.cell? ⟨R, 2, none⟩ = some (.slice A2 L2 ac3) := (Hbl.out.cell (p := ⟨R, 2, none⟩) (by show R < _; omega)).trans Hkq8.out
        by_cases hlt : k < L2
        · have hlt' : ((k : Int) < (L2 : Int)) := by omega
          obtain ⟨pb, po, p, q, r, ePs, hpb, hpk, cp, cq, cr⟩ := RVx.at_ (Hrv28.out.below (Hbl.out.mono (by omega))) hlt
          subst ePs
          have hokx := Har2.out.ok _ (List.mem_of_getElem? hpk)
          have Hsm := hide (okV_sm (by omega) hokx)
          have Hkey := hide (key_of Hsm.out)
          have Htk : Hid (at2.take (k + 1) = at2.take k ++ [(p, q, r)]) := hide (by rw [List.take_add_one, hpk]; rfl)
          have HmapA := hide (hmap.alloc (.cells #[.int .i64 p, .int .i64 q, .int .i64 r] 57))
          obtain ⟨d0, d1, d2⟩ := box57 wr p q r 57
          have hzM : R + 1 < wr.heap.size := by omega
          have HbA := hide ((Below.refl wr.heap.size wr).alloc (Nat.le_refl _) (.cells #[.int .i64 p, .int .i64 q, .int .i64 r] 57))
          have hzA : (wr.alloc (.cells #[.int .i64 p, .int .i64 q, .int .i64 r] 57)).heap.size = wr.heap.size + 1 := by simp
          have Hlt := hide hlt
          clear hmap hpk hokx
          go_wp2_with (first
            | (at_mapUpdate; refine wpList_mapUpdate_own _ rfl _ _ _ 55 rfl 57 3 lawVx Tryz.underlying55 _ (R + 1) n D rfl HmapA.out (by unfold maxLen; omega) _ _ _ rfl rfl Hkey.out _ [] (plainElem_int Tryz.underlying3 (WalkArith.wf_i64 (by omega))) ?_; intro w9 hown9 hg9; have Hg9 := hide hg9; have Hown9 := hide hown9; clear hg9 hown9)
            | go_in)
          have Hisq := hide HmapA.out.isMap
          go_roundw
          case rel => exact ⟨k + 1, n + 1, _, by have := Hlt.out; omega, by go_num, by omega, Hown9.out, hide (by rw [Htk.out]; exact Hmk.out.put Hisq.out Hsm.out), hide ((Hbl.out.trans (HbA.out.mono (by omega))).grown Hg9.out (by omega) (fun z hz => by injection hz with hz; omega))⟩
          case measure => have := Hlt.out; simp [intOf]; omega
        · have hlt' : ¬ ((k : Int) < (L2 : Int)) := by omega
          obtain rfl : k = L2 := by omega
          have Hmk2 : Hid (VMark D at2) := hide (by have := Hmk.out; rwa [List.take_of_length_le (by rw [Hlen2.out]; exact Nat.le_refl _)] at this)
          have Hmap := hide hmap
          have Hrgr := hide (Hrg8.out.below (Hbl.out.mono (by omega)))
          have Hrvr := hide (Hrv8.out.below (Hbl.out.mono (by omega)))
          have Hk0r := hide ((Hbl.out.cell (p := ⟨Q, 0, none⟩) (by show Q < _; omega)).trans Hk80.out)
          have Hk1r := hide ((Hbl.out.cell (p := ⟨Q, 1, none⟩) (by show Q < _; omega)).trans Hk81.out)
          have Hk2r := hide ((Hbl.out.cell (p := ⟨Q, 2, none⟩) (by show Q < _; omega)).trans Hk82.out)
          have Hbr := hide (Hb8.out.trans (Hbl.out.mono (by omega)))
          have k2r := Hk2r.out
          clear Hmk hmap hlt Hrg8 Hrv8 Hk80 Hk81 Hk82 Hb8 Hrv28
          go_wp2_with fail
          clear k2r kqr hlt'
          have hlenL : ats.length = L := Hlen.out
          obtain ⟨wv, rfl⟩ : ∃ wv, wv = wr := ⟨_, rfl⟩
          go_loopw [108] (fun i wz => ∃ (j : Nat), j ≤ L ∧ i = .int .i64 j ∧ Hid (Below wv.heap.size wv wz)) (fun i _ => L - (intOf i).toNat)
          case atStart => exact ⟨0, by omega, rfl, hide (Below.refl _ _)⟩
          case round =>
            obtain ⟨j, hj, rfl, Hwz⟩ := hrel
            have hzz := Hwz.out.size
            by_cases hlt2 : j < L
            · have hlt2' : ((j : Int) < (L : Int)) := by omega
              obtain ⟨pb, po, p, q, r, ePs, hpb, hpk, cp, cq, cr⟩ := RVx.at_ (Hrvr.out.below (Hwz.out.mono (by omega))) hlt2
              subst ePs
              have Hin := hide (Hsub.out j _ hpk)
              have hokx := Har.out.ok _ (List.mem_of_getElem? hpk)
              have Hsm := hide (okV_sm (by omega) hokx)
              have Hkey := hide (key_of Hsm.out)
              have HmapA := hide ((hown_below Hmap.out Hwz.out).alloc (.cells #[.int .i64 p, .int .i64 q, .int .i64 r] 57))
              obtain ⟨d0, d1, d2⟩ := box57 wr p q r 57
              have HbA := hide ((Below.refl wr.heap.size wr).alloc (Nat.le_refl _) (.cells #[.int .i64 p, .int .i64 q, .int .i64 r] 57))
              have Hj := hide hlt2
              clear hpk hokx
              go_wp2_with (first
                | (at_lookup; refine wpList_lookup_own_int _ rfl _ _ 55 rfl 57 3 .i64 lawVx Tryz.underlying55 Tryz.underlying3 (zero3A _) (R + 1) n D rfl HmapA.out _ _ rfl Hkey.out ?_; intro c hat hwc; obtain rfl := mark_yes Hmk2.out Hsm.out Hin.out hat; clear hat hwc)
                | go_in)
              go_roundw
              case rel => exact ⟨j + 1, by have := Hj.out; omega, by go_num, hide (Hwz.out.trans (HbA.out.mono (by omega)))⟩
              case measure => have := Hj.out; simp [intOf]; omega
            · have hlt2' : ¬ ((j : Int) < (L : Int)) := by omega
              obtain rfl : j = L := by omega
              have k0z := (Hwz.out.cell (p := ⟨Q, 0, none⟩) (by show Q < _; omega)).trans Hk0r.out
              have k1z := (Hwz.out.cell (p := ⟨Q, 1, none⟩) (by show Q < _; omega)).trans Hk1r.out
              have Hbz := hide (Hbr.out.trans (Hwz.out.mono (by omega)))
              go_wp2_with fail
              clear k0z k1z
              refine (Gr.rmay_any (Q + 1) OA NA j oc j nc2 ⟨ats.map ownV, nxs⟩ wr (by omega) (Hrgr.out.below (Hwz.out.mono (by omega)))).mono ?_
              rw [Hmay.out]
              rintro e w11 ⟨rfl, hb11⟩
              have hz11 := hb11.size
              have Hb11 := hide (Hbz.out.trans (hb11.mono (by omega)))
              clear hb11 Hbz
              go_wp2_with fail
              refine (awake_any _).mono ?_
              rintro e y1 ⟨rfl, hby⟩
              go_wp2_with fail
              go_ret
              exact ⟨rfl, by rw [hN]; exact Hb11.out.trans (hby.mono (by omega))⟩
end Go.Proofs.YtbppdalfcldodaaGreat
