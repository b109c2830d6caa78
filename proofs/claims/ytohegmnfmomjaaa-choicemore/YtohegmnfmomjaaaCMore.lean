/- The walk of ChoiceMore. -/
import Derived.Test.YtohegmnfmomjaaaCMoreD
import Derived.Test.YtohegmnfmomjaaaCInits
set_option maxRecDepth 100000
namespace Go.Proofs.Ytohegmnfmomjaaa
open Go.RowKit Ex Go.WideMaps Go.Maps
open Go.Sort (grow)
set_option linter.unusedSimpArgs false
set_option linter.unusedVariables false

theorem rif_ri {w : World} {lo n : Nat} {O : Option Addr} {xs : List Int} (h : RIF w lo O n xs) : Dom.RI w w.heap.size O n xs := ⟨h.1, fun hn => by
  obtain ⟨b, off, e, _, hb, hc⟩ := h.2 hn
  exact ⟨b, off, e, hb, hc⟩⟩
theorem or11 : bits BinOp.or IntKind.i64 1 1 = 1 := by decide +kernel
theorem or01 : bits BinOp.or IntKind.i64 0 1 = 1 := by decide +kernel
theorem mem_take6 {xs : List Int} {k : Nat} {x : Int} (h : xs[k]? = some x) (y : Int) : y ∈ xs.take (k + 1) ↔ y ∈ xs.take k ∨ y = x := by
  rw [List.take_add_one, h]
  simp
theorem ks_old {ks : List Int} {P : Int → Prop} {z : Int} (h : ∀ y, y ∈ ks ↔ P y) (hz : z ∈ ks) (y : Int) : y ∈ ks ↔ P y ∨ y = z :=
  ⟨fun h1 => .inl ((h y).1 h1), fun h1 => h1.elim (fun h2 => (h y).2 h2) (fun e => by rw [e]; exact hz)⟩
theorem ks_new {ks : List Int} {P : Int → Prop} {z : Int} (h : ∀ y, y ∈ ks ↔ P y) (y : Int) : y ∈ ks ++ [z] ↔ P y ∨ y = z := by
  rw [List.mem_append, h y]; simp
set_option maxHeartbeats 16000000 in
theorem cmore_any (B : Nat) (x : M8) (m : MT) (y : C2) (c : CT) (env : Bool) (st0 pk0 : Int) (w : World) (hB : B ≤ w.heap.size) (hrm : RM w B x m) (hrc : RC w B y c) :
    Calls Try.prog 3 #[.agg x.cells, .agg y.cells, .bool env, .int .i64 st0, .int .i64 pk0] w fun e w' => e = .returned (.bool true) ∧ Below w.heap.size w w' := by
  obtain ⟨⟨vA, vn, vc⟩, ⟨io, im, iA, il, ic⟩, ⟨jo, jm, jA, jl, jc⟩, ⟨eA, en, ec⟩, ⟨sA, sn, sc⟩, ⟨aA, an, ac⟩, ⟨nA, nn, nc⟩, ⟨pA, pn, pc⟩⟩ := x
  obtain ⟨⟨yo, yn, yA, yl, yc⟩, ⟨tA, tn, tc⟩⟩ := y
  have hs1 : (w.alloc (.cells (M8.cells ⟨⟨vA, vn, vc⟩, ⟨io, im, iA, il, ic⟩, ⟨jo, jm, jA, jl, jc⟩, ⟨eA, en, ec⟩, ⟨sA, sn, sc⟩, ⟨aA, an, ac⟩, ⟨nA, nn, nc⟩, ⟨pA, pn, pc⟩⟩) 28)).heap.size = w.heap.size + 1 := by simp
  have hbx := ((Below.refl w.heap.size w).alloc (Nat.le_refl _) (.cells (M8.cells ⟨⟨vA, vn, vc⟩, ⟨io, im, iA, il, ic⟩, ⟨jo, jm, jA, jl, jc⟩, ⟨eA, en, ec⟩, ⟨sA, sn, sc⟩, ⟨aA, an, ac⟩, ⟨nA, nn, nc⟩, ⟨pA, pn, pc⟩⟩) 28)).alloc (by omega) (.cells #[.int .i64 yo, .int .i64 yn, .slice yA yl yc, .slice tA tn tc] 31)
  have Hrow0 := hide ((mV_new w ⟨⟨vA, vn, vc⟩, ⟨io, im, iA, il, ic⟩, ⟨jo, jm, jA, jl, jc⟩, ⟨eA, en, ec⟩, ⟨sA, sn, sc⟩, ⟨aA, an, ac⟩, ⟨nA, nn, nc⟩, ⟨pA, pn, pc⟩⟩).alloc (.cells #[.int .i64 yo, .int .i64 yn, .slice yA yl yc, .slice tA tn tc] 31))
  have Hcb0 := hide (boxC_new (w.alloc (.cells (M8.cells ⟨⟨vA, vn, vc⟩, ⟨io, im, iA, il, ic⟩, ⟨jo, jm, jA, jl, jc⟩, ⟨eA, en, ec⟩, ⟨sA, sn, sc⟩, ⟨aA, an, ac⟩, ⟨nA, nn, nc⟩, ⟨pA, pn, pc⟩⟩) 28)) yo yn yA yl yc tA tn tc 31)
  rw [hs1] at Hcb0
  have Hrm0 := hide (hrm.below (hbx.mono hB))
  have Hrc0 := hide (rc_below hrc (hbx.mono hB))
  have Hb0 := hide hbx
  have hz0 : w.heap.size + 2 ≤ ((w.alloc (.cells (M8.cells ⟨⟨vA, vn, vc⟩, ⟨io, im, iA, il, ic⟩, ⟨jo, jm, jA, jl, jc⟩, ⟨eA, en, ec⟩, ⟨sA, sn, sc⟩, ⟨aA, an, ac⟩, ⟨nA, nn, nc⟩, ⟨pA, pn, pc⟩⟩) 28)).alloc (.cells #[.int .i64 yo, .int .i64 yn, .slice yA yl yc, .slice tA tn tc] 31)).heap.size := by simp
  have Ho := hide hrm.1
  clear hrm hrc hbx hs1
  obtain ⟨q0, q1, q2, q3, q4, q5, q6, q7, q8, q9, q10, q11⟩ := row12 (mV_box Hrow0.out)
  obtain ⟨f0, f1, f2, f3⟩ := Hcb0.out
  simp only [M8.cells, SL.v, C2.cells] at *
  go_enter Try.func3, Try.ntmps3
  go_wp2_with fail
  clear q0 q1 q2 q3 q4 q5 q6 q7 q8 q9 q10 q11 f0 f1 f2 f3
  generalize (w.alloc (.cells #[.slice vA vn vc, .int .i64 io, .int .i64 im, .slice iA il ic, .int .i64 jo, .int .i64 jm, .slice jA jl jc, .slice eA en ec, .slice sA sn sc, .slice aA an ac, .slice nA nn nc, .slice pA pn pc] 28)).alloc (.cells #[.int .i64 yo, .int .i64 yn, .slice yA yl yc, .slice tA tn tc] 31) = w0 at *
  generalize hN : w.heap.size = N at *
  refine (hv6_any B ⟨⟨vA, vn, vc⟩, ⟨io, im, iA, il, ic⟩, ⟨jo, jm, jA, jl, jc⟩, ⟨eA, en, ec⟩, ⟨sA, sn, sc⟩, ⟨aA, an, ac⟩, ⟨nA, nn, nc⟩, ⟨pA, pn, pc⟩⟩ m w0 (by omega) Hrm0.out).mono ?_
  rintro e w1 ⟨rfl, hb1⟩
  have hz1 := hb1.size
  have Hb1 := hide (Hb0.out.trans (hb1.mono (by omega)))
  have Hrm1 := hide (Hrm0.out.below (hb1.mono (by omega)))
  have Hrc1 := hide (rc_below Hrc0.out (hb1.mono (by omega)))
  have Hrow1 := hide (Hrow0.out.of_block (hb1.block _ (by omega)))
  have Hcb1 := hide (Hcb0.out.below hb1 (by omega))
  clear hb1 Hb0 Hrm0 Hrc0 Hrow0 Hcb0
  generalize hv6 m = hv at *
  by_cases hh : 0 < hv
  case pos =>
    have hhb : decide (0 < hv) = true := by simp [hh]
    go_wp2_with fail
    refine (awake_any _).mono ?_
    rintro e y1 ⟨rfl, hby⟩
    go_wp2_with fail
    go_ret
    exact ⟨rfl, by rw [hN]; exact Hb1.out.trans (hby.mono (by omega))⟩
  case neg =>
    have hhb : decide (0 < hv) = false := by simp; omega
    obtain ⟨q0, q1, q2, q3, q4, q5, q6, q7, q8, q9, q10, q11⟩ := row12 (mV_box Hrow1.out)
    simp only at q0 q1 q2 q3 q4 q5 q6 q7 q8 q9 q10 q11
    obtain ⟨f0, f1, f2, f3⟩ := Hcb1.out
    go_wp2_with fail
    clear q0 q1 q2 q3 q4 q5 q6 q7 q8 q9 q10 q11 f0 f1 f2 f3
    refine (rmod_any B ⟨⟨vA, vn, vc⟩, ⟨io, im, iA, il, ic⟩, ⟨jo, jm, jA, jl, jc⟩, ⟨eA, en, ec⟩, ⟨sA, sn, sc⟩, ⟨aA, an, ac⟩, ⟨nA, nn, nc⟩, ⟨pA, pn, pc⟩⟩ m w1 (by omega) Hrm1.out).mono ?_
    rintro e w2 ⟨rfl, hb2⟩
    have hz2 := hb2.size
    have Hb2 := hide (Hb1.out.trans (hb2.mono (by omega)))
    have Hrm2 := hide (Hrm1.out.below (hb2.mono (by omega)))
    have Hrc2 := hide (rc_below Hrc1.out (hb2.mono (by omega)))
    have Hrow2 := hide (Hrow1.out.of_block (hb2.block _ (by omega)))
    have Hcb2 := hide (Hcb1.out.below hb2 (by omega))
    clear hb2 Hb1 Hrm1 Hrc1 Hrow1 Hcb1
    by_cases hc : modE m = 0
    case neg =>
      have hcb : (modE m != 0) = true := by simp [hc]
      go_wp2_with fail
      refine (awake_any _).mono ?_
      rintro e y1 ⟨rfl, hby⟩
      go_wp2_with fail
      go_ret
      exact ⟨rfl, by rw [hN]; exact Hb2.out.trans (hby.mono (by omega))⟩
    case pos =>
      have hcb : (modE m != 0) = false := by simp [hc]
      have Hc := hide hc
      clear hc
      obtain ⟨q0, q1, q2, q3, q4, q5, q6, q7, q8, q9, q10, q11⟩ := row12 (mV_box Hrow2.out)
      simp only at q0 q1 q2 q3 q4 q5 q6 q7 q8 q9 q10 q11
      obtain ⟨f0, f1, f2, f3⟩ := Hcb2.out
      go_wp2_with fail
      clear q0 q1 q2 q3 q4 q5 q6 q7 q8 q9 q10 q11 f0 f1 f2 f3
      refine (Dom.total_any vA vn vc B m.vars w2 Ho.out.1 (by omega) Hrm2.out.2.1).mono ?_
      rintro e w3 ⟨rfl, hb3⟩
      have hz3 := hb3.size
      have Hb3 := hide (Hb2.out.trans (hb3.mono (by omega)))
      have Hrm3 := hide (Hrm2.out.below (hb3.mono (by omega)))
      have Hrc3 := hide (rc_below Hrc2.out (hb3.mono (by omega)))
      have Hrow3 := hide (Hrow2.out.of_block (hb3.block _ (by omega)))
      have Hcb3 := hide (Hcb2.out.below hb3 (by omega))
      clear hb3 Hb2 Hrm2 Hrc2 Hrow2 Hcb2
      obtain ⟨tt, ht, ht512⟩ : ∃ t : Nat, Dom.totL m.vars = (t : Int) ∧ t ≤ 512 := ⟨totN m, by unfold totN; have := (Dom.totL_bd m.vars).1; omega, by unfold totN; have := (Dom.totL_bd m.vars).2; omega⟩
      have Ht := hide ht
      have htp : 0 < tt := by have := (Dom.mayL_zero (mod_vars Hc.out)).2; omega
      rw [ht]
      clear ht
      have htb : decide ((tt : Int) < 1) = false := by simp; omega
      have htc : decide (tt < 1) = false := by simp; omega
      go_wp2_with fail
      clear htb htc hcb hhb hh
      refine copies (n := 2) (src := 5) (b := N) (x := ⟨⟨vA, vn, vc⟩, ⟨io, im, iA, il, ic⟩, ⟨jo, jm, jA, jl, jc⟩, ⟨eA, en, ec⟩, ⟨sA, sn, sc⟩, ⟨aA, an, ac⟩, ⟨nA, nn, nc⟩, ⟨pA, pn, pc⟩⟩) (fun j => 38 + j) (fun j => 11 + j) [38, 39, 11, 12] (by kernel_rfl) (by kernel_rfl) ?_ ?_ ?_ (fun j o ho => (ownAc_spec (by kernel_rfl) j o ho).1) ?_ (by decide) (fun i j hi hj => by omega) (fun i j hi hj hne => by omega) rfl (mV_box Hrow3.out) (by omega) ?_
      · intro j hj
        have h : j = 0 ∨ j = 1 := by omega
        rcases h with rfl | rfl <;> exact ⟨_, _, _, rfl⟩
      · intro j hj
        have h : j = 0 ∨ j = 1 := by omega
        rcases h with rfl | rfl <;> exact ⟨_, _, _, rfl⟩
      · intro j hj
        have h : j = 0 ∨ j = 1 := by omega
        rcases h with rfl | rfl
        · exact ⟨_, _, _, rfl, ⟨⟨0, .data⟩, by simp, rfl, by kernel_rfl⟩, ⟨⟨2, .data⟩, by simp, rfl, by kernel_rfl⟩⟩
        · exact ⟨_, _, _, rfl, ⟨⟨1, .data⟩, by simp, rfl, by kernel_rfl⟩, ⟨⟨3, .data⟩, by simp, rfl, by kernel_rfl⟩⟩
      · intro j hj
        have h : j = 0 ∨ j = 1 := by omega
        rcases h with rfl | rfl <;> exact ⟨by simp, by simp, by simp, by simp⟩
      intro v p w4 hv2 hpp hb4
      obtain ⟨l0, d0, p00, p01, hp0⟩ := hv2 0 (by omega)
      obtain ⟨l1, d1, p10, p11, hp1⟩ := hv2 1 (by omega)
      simp only [Nat.add_zero, Nat.reduceAdd] at l0 l1 d0 d1
      have n01 := hpp 0 1 (by omega) (by omega) (by omega)
      generalize p 0 = g0 at *
      generalize p 1 = g1 at *
      rw [sel_cons, sel_cons, sel_cons, sel_cons, sel_nil, l0, l1, d0, d1]
      clear hv2 hpp l0 l1 d0 d1 v p
      have Hp04 := hide hp0
      have Hp14 := hide hp1
      clear hp0 hp1
      have hz4 := hb4.size
      have Hb4 := hide (Hb3.out.trans (hb4.mono (by omega)))
      have Hrm4 := hide (Hrm3.out.below (hb4.mono (by omega)))
      have Hrc4 := hide (rc_below Hrc3.out (hb4.mono (by omega)))
      have Hrow4 := hide (Hrow3.out.of_block (hb4.block _ (by omega)))
      have Hcb4 := hide (Hcb3.out.below hb4 (by omega))
      clear hb4 Hb3 Hrm3 Hrc3 Hrow3 Hcb3
      simp only [M8.cells, SL.v]
      go_simp
      have hsz12 := sizesE_zero ((modE_iff m).1 Hc.out).2.2.2.1
      have hen : en ≤ 12 := by have h2 : m.env.length = en := Hrm4.out.2.2.2.2.1.1; omega
      have hsn : sn ≤ 12 := by have h2 : m.sys.length = sn := Hrm4.out.2.2.2.2.2.1.1; omega
      clear hsz12
      cases env
      · go_wp2_with fail
        obtain ⟨ks, hch, hcells⟩ := cmds_cells6 (Hrm4.out.2.2.2.2.2.1)
        have hlen : ks.flatten.length = sn * 4 := by rw [hch.len]; rw [show m.sys.length = sn from Hrm4.out.2.2.2.2.2.1.1]
        have Hch := hide hch
        simp only at hcells
        clear hch
        refine more_regionS (base := N) (nb := N) (cb := N + 1) (p0 := g0) (p1 := g1) (x := ⟨⟨vA, vn, vc⟩, ⟨io, im, iA, il, ic⟩, ⟨jo, jm, jA, jl, jc⟩, ⟨eA, en, ec⟩, ⟨sA, sn, sc⟩, ⟨aA, an, ac⟩, ⟨nA, nn, nc⟩, ⟨pA, pn, pc⟩⟩) (op := yo) (nn := yn) (A := yA) (len := yl) (cap := yc) (tA := tA) (tn := tn) (tc := tc) (lA := sA) (ln := sn) (lc := sc) (xs := ks.flatten) (by kernel_rfl) (by kernel_rfl) (by kernel_rfl) (by kernel_rfl) ⟨_, _, _, rfl⟩ ⟨_, _, _, rfl⟩ ⟨_, _, _, rfl⟩ ⟨_, _, _, rfl⟩ ⟨_, _, _, rfl⟩ ⟨_, _, _, rfl⟩ ⟨_, _, _, rfl⟩ ⟨_, _, _, rfl⟩ ⟨_, _, _, rfl⟩ ⟨_, _, _, rfl⟩ ⟨_, _, _, rfl⟩ ⟨_, _, _, rfl⟩ ⟨_, _, _, rfl⟩ (by simp) rfl rfl rfl rfl rfl Hcb4.out Hrow4.out Hp04.out Hp14.out ⟨by omega, by omega⟩ ⟨by omega, by omega⟩ ⟨by omega, by omega⟩ ⟨by omega, by omega⟩ n01 (by omega) hlen (fun h => rows_nil6 (Hrm4.out.2.2.2.2.2.1) h) (fun ad h j u hu => by have := hcells ad h j u hu; exact ⟨by omega, this.2⟩) Hch.out.one (by omega) ?_
        intro u ga cpa gb w5 hr0 how hr1 hgb hrN hcb5 hb5 hz5
        rw [sel_cons, sel_cons, sel_cons, sel_cons, sel_cons, sel_cons, sel_cons, sel_cons, sel_cons, sel_cons, sel_cons, sel_nil]
        generalize u 52 = u52
        generalize u 53 = u53
        generalize u 54 = u54
        generalize u 55 = u55
        generalize u 56 = u56
        generalize u 57 = u57
        generalize u 58 = u58
        generalize u 59 = u59
        generalize u 60 = u60
        generalize u 61 = u61
        generalize u 62 = u62
        clear u
        have Hb5 := hide (Hb4.out.trans hb5)
        have Hrm5 := hide (Hrm4.out.below (hb5.mono (by omega)))
        have Hrc5 := hide (rc_below Hrc4.out (hb5.mono (by omega)))
        have Hrow5 := hide hrN
        have Hp05 := hide (row_sys (s := ⟨some ⟨ga, 0, none⟩, sn + 1, cpa⟩) hr0)
        have Hp15 := hide (row_sys (s := ⟨some ⟨gb, 0, none⟩, 1, 1⟩) hr1)
        have HM5 := hide (rm_sys (Hrm5.out.more (B' := w5.heap.size) (by omega)) (cmds_more Hch.out (hb5.mono (by omega)) (by omega) how Hrc5.out))
        have HO5 := hide (rm_sys (Hrm5.out.more (B' := w5.heap.size) (by omega)) (cmds_one hgb (by omega) Hrc5.out))
        simp only at Hp05 Hp15 HM5 HO5
        clear hr0 how hr1 hgb hrN hcb5 hb5 Hb4 Hrm4 Hrc4 Hrow4 Hcb4 Hp04 Hp14 Hrc5 hcells Hch
        obtain ⟨q0, q1, q2, q3, q4, q5, q6, q7, q8, q9, q10, q11⟩ := row12 (mV_box Hp15.out)
        simp only at q0 q1 q2 q3 q4 q5 q6 q7 q8 q9 q10 q11
        go_simp
        go_wp2_with fail
        clear q0 q1 q2 q3 q4 q5 q6 q7 q8 q9 q10 q11
        refine (hvx_any w5.heap.size ⟨⟨vA, vn, vc⟩, ⟨io, im, iA, il, ic⟩, ⟨jo, jm, jA, jl, jc⟩, ⟨eA, en, ec⟩, ⟨some ⟨gb, 0, none⟩, 1, 1⟩, ⟨aA, an, ac⟩, ⟨nA, nn, nc⟩, ⟨pA, pn, pc⟩⟩ _ w5 (Nat.le_refl _) HO5.out).mono ?_
        rintro e w6 ⟨rfl, hb6⟩
        have hz6 := hb6.size
        have Hb6 := hide (Hb5.out.trans (hb6.mono (by omega)))
        have Hrm6 := hide (Hrm5.out.below (hb6.mono (by omega)))
        have Hrow6 := hide (Hrow5.out.of_block (hb6.block _ (by omega)))
        have Hp06 := hide (Hp05.out.of_block (hb6.block _ (by omega)))
        have Hp16 := hide (Hp15.out.of_block (hb6.block _ (by omega)))
        have HM6 := hide (HM5.out.below (hb6.mono (by omega)))
        have HO6 := hide (HO5.out.below (hb6.mono (by omega)))
        clear hb6 Hb5 Hrm5 Hrow5 Hp05 Hp15 HM5 HO5
        generalize hvM { m with sys := [c] } = h2v at *
        by_cases hh2 : 0 < h2v
        case pos =>
          have hhc : decide (0 < h2v) = true := by simp [hh2]
          go_wp2_with fail
          refine (awake_any _).mono ?_
          rintro e y1 ⟨rfl, hby⟩
          go_wp2_with fail
          go_ret
          exact ⟨rfl, by rw [hN]; exact Hb6.out.trans (hby.mono (by omega))⟩
        case neg =>
          have hhc : decide (0 < h2v) = false := by simp; omega
          obtain ⟨q0, q1, q2, q3, q4, q5, q6, q7, q8, q9, q10, q11⟩ := row12 (mV_box Hp06.out)
          simp only at q0 q1 q2 q3 q4 q5 q6 q7 q8 q9 q10 q11
          go_wp2_with fail
          clear q0 q1 q2 q3 q4 q5 q6 q7 q8 q9 q10 q11
          refine (rmod_any w5.heap.size ⟨⟨vA, vn, vc⟩, ⟨io, im, iA, il, ic⟩, ⟨jo, jm, jA, jl, jc⟩, ⟨eA, en, ec⟩, ⟨some ⟨ga, 0, none⟩, sn + 1, cpa⟩, ⟨aA, an, ac⟩, ⟨nA, nn, nc⟩, ⟨pA, pn, pc⟩⟩ _ w6 (by omega) HM6.out).mono ?_
          rintro e w7 ⟨rfl, hb7⟩
          have hz7 := hb7.size
          have Hb7 := hide (Hb6.out.trans (hb7.mono (by omega)))
          have Hrm7 := hide (Hrm6.out.below (hb7.mono (by omega)))
          have Hrow7 := hide (Hrow6.out.of_block (hb7.block _ (by omega)))
          have Hp07 := hide (Hp06.out.of_block (hb7.block _ (by omega)))
          have Hp17 := hide (Hp16.out.of_block (hb7.block _ (by omega)))
          have HM7 := hide (HM6.out.below (hb7.mono (by omega)))
          have HO7 := hide (HO6.out.below (hb7.mono (by omega)))
          clear hb7 Hb6 Hrm6 Hrow6 Hp06 Hp16 HM6 HO6
          by_cases hc2 : modE { m with sys := m.sys ++ [c] } = 0
          case neg =>
            have hcb2 : (modE { m with sys := m.sys ++ [c] } != 0) = true := by simp [hc2]
            go_wp2_with fail
            refine (awake_any _).mono ?_
            rintro e y1 ⟨rfl, hby⟩
            go_wp2_with fail
            go_ret
            exact ⟨rfl, by rw [hN]; exact Hb7.out.trans (hby.mono (by omega))⟩
          case pos =>
            have hcb2 : (modE { m with sys := m.sys ++ [c] } != 0) = false := by simp [hc2]
            have Hc2 := hide hc2
            have Hc3 := hide (more_one_sys hc2)
            clear hc2
            obtain ⟨q0, _⟩ := row12 (mV_box Hrow7.out)
            simp only at q0
            go_wp2_with fail
            clear q0 hcb2 hhc hh2
            refine (Dom.total_any vA vn vc B m.vars w7 Ho.out.1 (by omega) Hrm7.out.2.1).mono ?_
            rintro e w8 ⟨rfl, hb8⟩
            have hz8 := hb8.size
            have Hb8 := hide (Hb7.out.trans (hb8.mono (by omega)))
            have Hrm8 := hide (Hrm7.out.below (hb8.mono (by omega)))
            have Hrow8 := hide (Hrow7.out.of_block (hb8.block _ (by omega)))
            have Hp08 := hide (Hp07.out.of_block (hb8.block _ (by omega)))
            have Hp18 := hide (Hp17.out.of_block (hb8.block _ (by omega)))
            have HM8 := hide (HM7.out.below (hb8.mono (by omega)))
            have HO8 := hide (HO7.out.below (hb8.mono (by omega)))
            clear hb8 Hb7 Hrm7 Hrow7 Hp07 Hp17 HM7 HO7
            rw [Ht.out]
            have hmod : ∀ (n : Nat) (z : Int), 0 < n → n ≤ 100000 → ∃ q : Nat, q < n ∧ (IntKind.u64.wrap z).tmod (n : Int) = (q : Int) := fun n z hn _ => by
              have h0 : 0 ≤ IntKind.u64.wrap z := by rw [IntKind.wrap_u64]; omega
              have hp : (0 : Int) < (n : Int) := by omega
              have h1 := Int.emod_nonneg (IntKind.u64.wrap z) (show (n : Int) ≠ 0 by omega)
              have h2 := Int.emod_lt_of_pos (IntKind.u64.wrap z) hp
              refine ⟨((IntKind.u64.wrap z).tmod (n : Int)).toNat, ?_, ?_⟩
              · rw [Int.tmod_eq_emod_of_nonneg h0]; omega
              · rw [Int.tmod_eq_emod_of_nonneg h0]; omega
            obtain ⟨q, hqn, hqe⟩ := hmod tt st0 (by omega) (by omega)
            obtain ⟨r, hrn, hre⟩ := hmod tt pk0 (by omega) (by omega)
            have hqw : IntKind.i64.wrap (q : Int) = (q : Int) := by rw [IntKind.wrap_i64]; omega
            have hrw : IntKind.i64.wrap (r : Int) = (r : Int) := by rw [IntKind.wrap_i64]; omega
            have hwN : IntKind.u64.wrap (tt : Int) = (tt : Int) := by rw [IntKind.wrap_u64]; omega
            have hv0' : ¬ (tt : Int) = 0 := by omega
            clear hmod
            go_wp2_with fail
            clear hqe hqw
            have hBW : B ≤ w8.heap.size := by omega
            have Hq21 : Hid (∀ dd os, Calls Try.prog 10 #[.slice vA vn vc] (grow (redrawn w8 dd) os) fun e w'' => e = .returned (.int .i64 (tt : Int)) ∧ ∃ p : Regrown, w'' = grow (redrawn w8 p.d) p.os) := hide (fun dd os => by
              rw [← Ht.out]
              exact Calls.regrown_of (Dom.total_any vA vn vc B m.vars _ Ho.out.1 (Nat.le_trans hBW (below_regrown w8 dd os).size) (Hrm8.out.2.1.below ((below_regrown w8 dd os).mono hBW))))
            have Hq23 : Hid (∀ s e dd os, Calls Try.prog 13 #[.slice vA vn vc, .int .i64 s, .bool e] (grow (redrawn w8 dd) os) fun e' w'' => e' = .returned (.int .i64 (Dom.partL m.vars s e)) ∧ ∃ p : Regrown, w'' = grow (redrawn w8 p.d) p.os) := hide (fun s e dd os =>
              Calls.regrown_of (Dom.part_any vA vn vc B m.vars s e _ Ho.out.1 (Nat.le_trans hBW (below_regrown w8 dd os).size) (Hrm8.out.2.1.below ((below_regrown w8 dd os).mono hBW)) Ho.out.2.2.2))
            have C0 := cell_regrown (row12 (mV_box Hrow8.out)).1
            simp only at C0
            refine wp_region_quiet_below (by kernel_rfl) (by kernel_rfl) ?_
            repeat (go_big_quiet_step (first | (go_at_call 10; exact Hq21.out _ _) | (go_at_call 13; exact Hq23.out _ _ _ _)))
            refine wpQuiet_nil ?_
            intro w9 hw9
            obtain ⟨pp, hpp⟩ := hw9
            have hb9 : Below w8.heap.size w8 w9 := by rw [hpp]; exact below_regrown w8 pp.d pp.os
            clear hpp C0 Hq21 Hq23 hre hrw hwN hv0'
            have hz9 := hb9.size
            have Hb9 := hide (Hb8.out.trans (hb9.mono (by omega)))
            have Hrm9 := hide (Hrm8.out.below (hb9.mono (by omega)))
            have Hrow9 := hide (Hrow8.out.of_block (hb9.block _ (by omega)))
            have Hp09 := hide (Hp08.out.of_block (hb9.block _ (by omega)))
            have Hp19 := hide (Hp18.out.of_block (hb9.block _ (by omega)))
            have HM9 := hide (HM8.out.below (hb9.mono (by omega)))
            have HO9 := hide (HO8.out.below (hb9.mono (by omega)))
            clear hb9 Hb8 Hrm8 Hrow8 Hp08 Hp18 HM8 HO8
            generalize hpk : Dom.partL m.vars (r : Int) true = pk at *
            go_wp2_with fail
            refine calls_regionE (b0 := N) (b1 := g0) (b2 := g1) (x0 := ⟨⟨vA, vn, vc⟩, ⟨io, im, iA, il, ic⟩, ⟨jo, jm, jA, jl, jc⟩, ⟨eA, en, ec⟩, ⟨sA, sn, sc⟩, ⟨aA, an, ac⟩, ⟨nA, nn, nc⟩, ⟨pA, pn, pc⟩⟩) (x1 := ⟨⟨vA, vn, vc⟩, ⟨io, im, iA, il, ic⟩, ⟨jo, jm, jA, jl, jc⟩, ⟨eA, en, ec⟩, ⟨some ⟨ga, 0, none⟩, sn + 1, cpa⟩, ⟨aA, an, ac⟩, ⟨nA, nn, nc⟩, ⟨pA, pn, pc⟩⟩) (x2 := ⟨⟨vA, vn, vc⟩, ⟨io, im, iA, il, ic⟩, ⟨jo, jm, jA, jl, jc⟩, ⟨eA, en, ec⟩, ⟨some ⟨gb, 0, none⟩, 1, 1⟩, ⟨aA, an, ac⟩, ⟨nA, nn, nc⟩, ⟨pA, pn, pc⟩⟩) (m0 := m) (m1 := { m with sys := m.sys ++ [c] }) (m2 := { m with sys := [c] }) (st := (q : Int)) (pk := pk) (by kernel_rfl) (by kernel_rfl) (by kernel_rfl) (by kernel_rfl) ⟨_, _, _, rfl⟩ ⟨_, _, _, rfl⟩ ⟨_, _, _, rfl⟩ ⟨_, _, _, rfl⟩ ⟨_, _, _, rfl⟩ ⟨_, _, _, rfl⟩ ⟨_, _, _, rfl⟩ ⟨_, _, _, rfl⟩ ⟨_, _, _, rfl⟩ ⟨_, _, _, rfl⟩ ⟨_, _, _, rfl⟩ ⟨_, _, _, rfl⟩ (by simp) rfl rfl rfl rfl rfl (mV_box Hrow9.out) (mV_box Hp09.out) (mV_box Hp19.out) (by omega) (by omega) (by omega) (Hrm9.out.more (by omega)) (HM9.out.more (by omega)) (HO9.out.more (by omega)) ?_
            intro u Oa Ob Od ca cb cd w10 ea eb ed ra rb rd hb10
            rw [sel_cons, sel_cons, sel_cons, sel_cons, sel_cons, sel_cons, sel_cons, sel_cons, sel_cons, sel_cons, sel_cons, sel_cons, sel_nil, ea, eb, ed]
            generalize u 91 = u91
            generalize u 92 = u92
            generalize u 93 = u93
            generalize u 94 = u94
            generalize u 95 = u95
            generalize u 96 = u96
            generalize u 97 = u97
            generalize u 98 = u98
            generalize u 99 = u99
            clear u ea eb ed
            have hz10 := hb10.size
            have Hb10 := hide (Hb9.out.trans (hb10.mono (by omega)))
            have Hrm10 := hide (Hrm9.out.below (hb10.mono (by omega)))
            have Hrow10 := hide (Hrow9.out.of_block (hb10.block _ (by omega)))
            have Hp010 := hide (Hp09.out.of_block (hb10.block _ (by omega)))
            have Hp110 := hide (Hp19.out.of_block (hb10.block _ (by omega)))
            have HM10 := hide (HM9.out.below (hb10.mono (by omega)))
            have HO10 := hide (HO9.out.below (hb10.mono (by omega)))
            clear hb10 Hb9 Hrm9 Hrow9 Hp09 Hp19 HM9 HO9
            clear ra rb rd
            go_simp
            go_wp2_with fail
            refine calls_regionS (b0 := N) (b1 := g0) (b2 := g1) (x0 := ⟨⟨vA, vn, vc⟩, ⟨io, im, iA, il, ic⟩, ⟨jo, jm, jA, jl, jc⟩, ⟨eA, en, ec⟩, ⟨sA, sn, sc⟩, ⟨aA, an, ac⟩, ⟨nA, nn, nc⟩, ⟨pA, pn, pc⟩⟩) (x1 := ⟨⟨vA, vn, vc⟩, ⟨io, im, iA, il, ic⟩, ⟨jo, jm, jA, jl, jc⟩, ⟨eA, en, ec⟩, ⟨some ⟨ga, 0, none⟩, sn + 1, cpa⟩, ⟨aA, an, ac⟩, ⟨nA, nn, nc⟩, ⟨pA, pn, pc⟩⟩) (x2 := ⟨⟨vA, vn, vc⟩, ⟨io, im, iA, il, ic⟩, ⟨jo, jm, jA, jl, jc⟩, ⟨eA, en, ec⟩, ⟨some ⟨gb, 0, none⟩, 1, 1⟩, ⟨aA, an, ac⟩, ⟨nA, nn, nc⟩, ⟨pA, pn, pc⟩⟩) (m0 := m) (m1 := { m with sys := m.sys ++ [c] }) (m2 := { m with sys := [c] }) (st := (q : Int)) (pk := pk) (by kernel_rfl) (by kernel_rfl) (by kernel_rfl) (by kernel_rfl) ⟨_, _, _, rfl⟩ ⟨_, _, _, rfl⟩ ⟨_, _, _, rfl⟩ ⟨_, _, _, rfl⟩ ⟨_, _, _, rfl⟩ ⟨_, _, _, rfl⟩ ⟨_, _, _, rfl⟩ ⟨_, _, _, rfl⟩ ⟨_, _, _, rfl⟩ ⟨_, _, _, rfl⟩ ⟨_, _, _, rfl⟩ ⟨_, _, _, rfl⟩ ⟨_, _, _, rfl⟩ ⟨_, _, _, rfl⟩ ⟨_, _, _, rfl⟩ (by simp) rfl rfl rfl rfl rfl (mV_box Hrow10.out) (mV_box Hp010.out) (mV_box Hp110.out) (by omega) (by omega) (by omega) (Hrm10.out.more (by omega)) (HM10.out.more (by omega)) (HO10.out.more (by omega)) ?_
            intro u Oa Ob Od ca cb cd w11 ea eb ed ra rb rd hb11
            rw [sel_cons, sel_cons, sel_cons, sel_cons, sel_cons, sel_cons, sel_cons, sel_cons, sel_cons, sel_cons, sel_cons, sel_cons, sel_cons, sel_cons, sel_cons, sel_nil, ea, eb, ed]
            generalize u 102 = u102
            generalize u 103 = u103
            generalize u 104 = u104
            generalize u 105 = u105
            generalize u 106 = u106
            generalize u 107 = u107
            generalize u 108 = u108
            generalize u 109 = u109
            generalize u 110 = u110
            generalize u 111 = u111
            generalize u 112 = u112
            generalize u 113 = u113
            clear u ea eb ed
            have hz11 := hb11.size
            have Hb11 := hide (Hb10.out.trans (hb11.mono (by omega)))
            have Hrm11 := hide (Hrm10.out.below (hb11.mono (by omega)))
            have Hrow11 := hide (Hrow10.out.of_block (hb11.block _ (by omega)))
            have Hp011 := hide (Hp010.out.of_block (hb11.block _ (by omega)))
            have Hp111 := hide (Hp110.out.of_block (hb11.block _ (by omega)))
            have HM11 := hide (HM10.out.below (hb11.mono (by omega)))
            have HO11 := hide (HO10.out.below (hb11.mono (by omega)))
            clear hb11 Hb10 Hrm10 Hrow10 Hp010 Hp110 HM10 HO10
            have Hall := hide (fun z => more_sysL (st := (q : Int)) (p := pk) Hc.out Hc2.out Hc3.out z)
            have Hlt := hide (sysL_lt { m with sys := m.sys ++ [c] } (q : Int) pk)
            have Hme : Hid (∀ x ∈ (sysL { m with sys := m.sys ++ [c] } (q : Int) pk), Dom.partL m.vars x true = pk ∧ 0 ≤ x ∧ x < (tt : Int)) := hide (fun x hx => by have h := sysL_mem hx; rw [Ht.out] at h; exact h)
            have hl1 := (any_len512 (m := m) (q : Int) pk).2
            have hl2 := (any_len512 (m := { m with sys := m.sys ++ [c] }) (q : Int) pk).2
            have hl3 := (any_len512 (m := { m with sys := [c] }) (q : Int) pk).2
            have Hra := hide (rif_ri ra)
            have Hrb := hide (rif_ri rb)
            have Hrd := hide (rif_ri rd)
            clear ra rb rd Hc2 Hc3
            generalize (sysL m (q : Int) pk) = la at *
            generalize (sysL { m with sys := m.sys ++ [c] } (q : Int) pk) = lb at *
            generalize (sysL { m with sys := [c] } (q : Int) pk) = ld at *
            have hmm := @run_makeMap Try.prog
            have hbm := (Below.refl w11.heap.size w11).alloc (Nat.le_refl _) (.map #[] 0)
            have Hmap0 := hide (World.ownsMap_made (H := Unit) w11 Try.prog 3 (plainElem Try.prog 3))
            have Hbm := hide hbm
            clear hbm
            go_simp
            go_wp2_with fail
            clear hmm
            generalize w11.alloc (.map #[] 0) = wm at *
            have hzm := Hbm.out.size
            go_loopw [117] (fun i wr => ∃ (k n1 : Nat) (D : DataW Unit) (ks : List Int), k ≤ la.length ∧ i = .int .i64 k ∧ n1 ≤ 0 + k ∧ Hid (wr.ownsMap Try.prog 3 (plainElem Try.prog 3) w11.heap.size n1 D) ∧ Hid (MarkIs D ks) ∧ Hid (∀ y, y ∈ ks ↔ y ∈ la.take k) ∧ Hid (Below w11.heap.size w11 wr)) (fun i _ => la.length - (intOf i).toNat)
            case atStart => exact ⟨0, 0, .map [], [], by omega, rfl, by omega, Hmap0, hide MarkIs.start, hide (fun y => by simp), Hbm⟩
            case round =>
              obtain ⟨ka, n1, D, ks1, hk, rfl, hn1, Hmap, HMk, Hks, Hbr⟩ := hrel
              have hzra := Hbr.out.size
              by_cases hlt : ka < la.length
              · have hlt' : ((ka : Int) < (la.length : Int)) := by omega
                obtain ⟨rb0, ro0, z, eO, hrb0, hzk, cz⟩ := (Hra.out.below Hbr.out).at_ hlt
                subst eO
                have hzr2 := Hme.out z ((Hall.out z).2 (.inl (List.mem_of_getElem? hzk)))
                have Hkey : Hid (keyOf Try.prog 3 (.int .i64 z) = some (.int .i64 z)) := hide (keyOf_int_mk Try.underlying3 (WalkArith.wf_i64 (by omega)))
                have Htk := hide (mem_take6 hzk)
                by_cases hin : z ∈ ks1
                · go_wp2_with (first | (at_lookup; refine wpList_lookup_own_int _ rfl _ _ 42 rfl 3 3 .i64 law3 Try.underlying42 Try.underlying3 (Dom.zero3 _) w11.heap.size n1 D rfl Hmap.out _ _ rfl Hkey.out ?_; intro cc hat hwc; have hcc := one_yes HMk.out.1 hin hat; clear hat hwc) | (at_mapUpdate; (try simp only [or11, or01]); refine wpList_mapUpdate_own _ rfl _ _ _ 42 rfl 3 3 law3 Try.underlying42 _ w11.heap.size n1 D rfl Hmap.out (by unfold maxLen; omega) _ _ _ rfl rfl Hkey.out _ [] (plainElem_int Try.underlying3 (WalkArith.wf_i64 (by omega))) ?_; intro wx hown9 hg9) | go_in)
                  have Hm9 := hide (HMk.out.old hin)
                  have Hb9x := hide (Hbr.out.grown hg9 hzra (fun j hj => by cases hj; exact Nat.le_refl _))
                  have Hk9 := hide (ks_old Hks.out hin)
                  have Hown9 := hide hown9
                  clear hown9 hg9 cz
                  go_roundw
                  case rel => exact ⟨ka + 1, n1 + 1, _, _, by omega, by go_num, by omega, Hown9, Hm9, hide (fun y => by rw [Hk9.out y, Htk.out y]), Hb9x⟩
                  case measure => simp [intOf]; omega
                · go_wp2_with (first | (at_lookup; refine wpList_lookup_own_int _ rfl _ _ 42 rfl 3 3 .i64 law3 Try.underlying42 Try.underlying3 (Dom.zero3 _) w11.heap.size n1 D rfl Hmap.out _ _ rfl Hkey.out ?_; intro cc hat hwc; have hcc := one_no HMk.out.1 hin hat; clear hat hwc) | (at_mapUpdate; (try simp only [or11, or01]); refine wpList_mapUpdate_own _ rfl _ _ _ 42 rfl 3 3 law3 Try.underlying42 _ w11.heap.size n1 D rfl Hmap.out (by unfold maxLen; omega) _ _ _ rfl rfl Hkey.out _ [] (plainElem_int Try.underlying3 (WalkArith.wf_i64 (by omega))) ?_; intro wx hown9 hg9) | go_in)
                  have Hm9 := hide (HMk.out.new hin)
                  have Hb9x := hide (Hbr.out.grown hg9 hzra (fun j hj => by cases hj; exact Nat.le_refl _))
                  have Hk9 := hide (ks_new (z := z) Hks.out)
                  have Hown9 := hide hown9
                  clear hown9 hg9 cz
                  go_roundw
                  case rel => exact ⟨ka + 1, n1 + 1, _, _, by omega, by go_num, by omega, Hown9, Hm9, hide (fun y => by rw [Hk9.out y, Htk.out y]), Hb9x⟩
                  case measure => simp [intOf]; omega
              · have hlt' : ¬ ((ka : Int) < (la.length : Int)) := by omega
                obtain rfl : ka = la.length := by omega
                go_wp2_with fail
                go_loopw [128] (fun i wr => ∃ (k n1 : Nat) (D : DataW Unit) (ks : List Int), k ≤ ld.length ∧ i = .int .i64 k ∧ n1 ≤ la.length + k ∧ Hid (wr.ownsMap Try.prog 3 (plainElem Try.prog 3) w11.heap.size n1 D) ∧ Hid (MarkIs D ks) ∧ Hid (∀ y, y ∈ ks ↔ (y ∈ la ∨ y ∈ ld.take k)) ∧ Hid (Below w11.heap.size w11 wr)) (fun i _ => ld.length - (intOf i).toNat)
                case atStart => exact ⟨0, n1, D, ks1, by omega, rfl, by omega, Hmap, HMk, hide (fun y => by rw [Hks.out y, List.take_length, List.take_zero]; simp), Hbr⟩
                case round =>
                  obtain ⟨kb, n1, D, ks1, hk, rfl, hn1, Hmap, HMk, Hks, Hbr⟩ := hrel
                  have hzrb := Hbr.out.size
                  by_cases hlt : kb < ld.length
                  · have hlt' : ((kb : Int) < (ld.length : Int)) := by omega
                    obtain ⟨rb0, ro0, z, eO, hrb0, hzk, cz⟩ := (Hrd.out.below Hbr.out).at_ hlt
                    subst eO
                    have hzr2 := Hme.out z ((Hall.out z).2 (.inr (List.mem_of_getElem? hzk)))
                    have Hkey : Hid (keyOf Try.prog 3 (.int .i64 z) = some (.int .i64 z)) := hide (keyOf_int_mk Try.underlying3 (WalkArith.wf_i64 (by omega)))
                    have Htk := hide (mem_take6 hzk)
                    by_cases hin : z ∈ ks1
                    · go_wp2_with (first | (at_lookup; refine wpList_lookup_own_int _ rfl _ _ 42 rfl 3 3 .i64 law3 Try.underlying42 Try.underlying3 (Dom.zero3 _) w11.heap.size n1 D rfl Hmap.out _ _ rfl Hkey.out ?_; intro cc hat hwc; have hcc := one_yes HMk.out.1 hin hat; clear hat hwc) | (at_mapUpdate; (try simp only [or11, or01]); refine wpList_mapUpdate_own _ rfl _ _ _ 42 rfl 3 3 law3 Try.underlying42 _ w11.heap.size n1 D rfl Hmap.out (by unfold maxLen; omega) _ _ _ rfl rfl Hkey.out _ [] (plainElem_int Try.underlying3 (WalkArith.wf_i64 (by omega))) ?_; intro wx hown9 hg9) | go_in)
                      have Hm9 := hide (HMk.out.old hin)
                      have Hb9x := hide (Hbr.out.grown hg9 hzrb (fun j hj => by cases hj; exact Nat.le_refl _))
                      have Hk9 := hide (ks_old Hks.out hin)
                      have Hown9 := hide hown9
                      clear hown9 hg9 cz
                      go_roundw
                      case rel => exact ⟨kb + 1, n1 + 1, _, _, by omega, by go_num, by omega, Hown9, Hm9, hide (fun y => by rw [Hk9.out y, Htk.out y]; exact or_assoc), Hb9x⟩
                      case measure => simp [intOf]; omega
                    · go_wp2_with (first | (at_lookup; refine wpList_lookup_own_int _ rfl _ _ 42 rfl 3 3 .i64 law3 Try.underlying42 Try.underlying3 (Dom.zero3 _) w11.heap.size n1 D rfl Hmap.out _ _ rfl Hkey.out ?_; intro cc hat hwc; have hcc := one_no HMk.out.1 hin hat; clear hat hwc) | (at_mapUpdate; (try simp only [or11, or01]); refine wpList_mapUpdate_own _ rfl _ _ _ 42 rfl 3 3 law3 Try.underlying42 _ w11.heap.size n1 D rfl Hmap.out (by unfold maxLen; omega) _ _ _ rfl rfl Hkey.out _ [] (plainElem_int Try.underlying3 (WalkArith.wf_i64 (by omega))) ?_; intro wx hown9 hg9) | go_in)
                      have Hm9 := hide (HMk.out.new hin)
                      have Hb9x := hide (Hbr.out.grown hg9 hzrb (fun j hj => by cases hj; exact Nat.le_refl _))
                      have Hk9 := hide (ks_new (z := z) Hks.out)
                      have Hown9 := hide hown9
                      clear hown9 hg9 cz
                      go_roundw
                      case rel => exact ⟨kb + 1, n1 + 1, _, _, by omega, by go_num, by omega, Hown9, Hm9, hide (fun y => by rw [Hk9.out y, Htk.out y]; exact or_assoc), Hb9x⟩
                      case measure => simp [intOf]; omega
                  · have hlt' : ¬ ((kb : Int) < (ld.length : Int)) := by omega
                    obtain rfl : kb = ld.length := by omega
                    have Hks2 : Hid (∀ y, y ∈ ks1 ↔ y ∈ lb) := hide (fun y => by rw [Hks.out y, Hall.out y, List.take_length])
                    have hsz6 : Maps.size D = lb.length := by rw [HMk.out.2.2.1]; exact nodup_len HMk.out.2.2.2.1 (lt_nodup Hlt.out) Hks2.out
                    have hszb : ((lb.length : Int) != (Maps.size D : Int)) = false := by rw [hsz6]; simp
                    clear hsz6
                    go_wp2_with (at_len; refine wpList_len_own _ rfl _ 42 rfl 3 3 Try.underlying42 _ w11.heap.size n1 D rfl Hmap.out ?_)
                    clear hszb
                    go_loopw [144] (fun i wr => ∃ (j : Nat), j ≤ lb.length ∧ i = .int .i64 j ∧ Hid (wr.ownsMap Try.prog 3 (plainElem Try.prog 3) w11.heap.size n1 D) ∧ Hid (Below w11.heap.size w11 wr)) (fun i _ => lb.length - (intOf i).toNat)
                    case atStart => exact ⟨0, by omega, rfl, Hmap, Hbr⟩
                    case round =>
                      obtain ⟨j, hj, rfl, Hmj, Hbj⟩ := hrel
                      have hzj := Hbj.out.size
                      by_cases hlt3 : j < lb.length
                      · have hlt3' : ((j : Int) < (lb.length : Int)) := by omega
                        obtain ⟨rb0, ro0, x, eO, hrb0, hxj, cx⟩ := (Hrb.out.below Hbj.out).at_ hlt3
                        have hin : x ∈ ks1 := (Hks2.out x).2 (List.mem_of_getElem? hxj)
                        obtain ⟨hxp, hx0, hx1⟩ := Hme.out x (List.mem_of_getElem? hxj)
                        have Hkey : Hid (keyOf Try.prog 3 (.int .i64 x) = some (.int .i64 x)) := hide (keyOf_int_mk Try.underlying3 (WalkArith.wf_i64 (by omega)))
                        have hpb : (Dom.partL m.vars x true != pk) = false := by simp [hxp]
                        clear hxp
                        obtain ⟨q0, _⟩ := row12 ((mV_box Hrow11.out).below Hbj.out (by omega))
                        simp only at q0
                        have Hprev : Hid (0 < j → ∃ y, lb[j - 1]? = some y ∧ wr.cell? ⟨rb0, ro0 + (j - 1), none⟩ = some (.int .i64 y) ∧ y < x) := hide (fun h0 => by
                          obtain ⟨b2, o2, y, e2, _, hy, cy⟩ := (Hrb.out.below Hbj.out).at_ (k := j - 1) (by omega)
                          rw [eO] at e2
                          injection e2 with e2
                          injection e2 with e3 e4
                          subst e3; subst e4
                          refine ⟨y, hy, cy, lt_take Hlt.out hxj ?_⟩
                          rw [List.mem_iff_getElem?]
                          exact ⟨j - 1, by rw [List.getElem?_take_of_lt (by omega)]; exact hy⟩)
                        subst eO
                        by_cases hj0 : j = 0
                        · subst hj0
                          rw [Nat.add_zero] at cx
                          go_wp2_with (at_lookup; refine wpList_lookup_own_int _ rfl _ _ 42 rfl 3 3 .i64 law3 Try.underlying42 Try.underlying3 (Dom.zero3 _) w11.heap.size n1 D rfl Hmj.out _ _ rfl Hkey.out ?_; intro cc hat hwc; have hcc := one_yes HMk.out.1 hin hat; clear hat hwc)
                          clear q0 cx
                          refine (Dom.part_any vA vn vc B m.vars x true wr Ho.out.1 (by omega) (Hrm11.out.2.1.below (Hbj.out.mono (by omega))) Ho.out.2.2.2).mono ?_
                          rintro e wp ⟨rfl, hbp⟩
                          have Hmp := hide (onl_map Hmj.out hbp)
                          have Hbp := hide (Hbj.out.trans (hbp.mono hzj))
                          clear hbp
                          go_wp2_with fail
                          go_roundw
                          case rel => exact ⟨0 + 1, by omega, by go_num, Hmp, Hbp⟩
                          case measure => simp [intOf]; omega
                        · obtain ⟨y, hyj, cy, hyx⟩ := Hprev.out (by omega)
                          have hgt : decide (0 < (j : Int)) = true := by simp; omega
                          have hgt2 : decide (0 < j) = true := by simp; omega
                          have hle : decide (x ≤ y) = false := by simp; omega
                          have hjw : wrap64 ((j : Int) - 1) = ((j - 1 : Nat) : Int) := by rw [Dom.wrap64_mid _ (by omega) (by omega)]; omega
                          have hj1 : (((j - 1 : Nat) : Int) < (lb.length : Int)) := by omega
                          go_wp2_with (at_lookup; refine wpList_lookup_own_int _ rfl _ _ 42 rfl 3 3 .i64 law3 Try.underlying42 Try.underlying3 (Dom.zero3 _) w11.heap.size n1 D rfl Hmj.out _ _ rfl Hkey.out ?_; intro cc hat hwc; have hcc := one_yes HMk.out.1 hin hat; clear hat hwc)
                          clear q0 cx cy hgt hgt2 hle hjw hj1
                          refine (Dom.part_any vA vn vc B m.vars x true wr Ho.out.1 (by omega) (Hrm11.out.2.1.below (Hbj.out.mono (by omega))) Ho.out.2.2.2).mono ?_
                          rintro e wp ⟨rfl, hbp⟩
                          have Hmp := hide (onl_map Hmj.out hbp)
                          have Hbp := hide (Hbj.out.trans (hbp.mono hzj))
                          clear hbp
                          go_wp2_with fail
                          go_roundw
                          case rel => exact ⟨j + 1, by omega, by go_num, Hmp, Hbp⟩
                          case measure => simp [intOf]; omega
                      · have hlt3' : ¬ ((j : Int) < (lb.length : Int)) := by omega
                        go_wp2_with fail
                        refine (awake_any _).mono ?_
                        rintro e y1 ⟨rfl, hby⟩
                        go_wp2_with fail
                        go_ret
                        exact ⟨rfl, by rw [hN]; exact (Hb11.out.trans (Hbj.out.mono (by omega))).trans (hby.mono (by omega))⟩
      · go_wp2_with fail
        obtain ⟨ks, hch, hcells⟩ := cmds_cells6 (Hrm4.out.2.2.2.2.1)
        have hlen : ks.flatten.length = en * 4 := by rw [hch.len]; rw [show m.env.length = en from Hrm4.out.2.2.2.2.1.1]
        have Hch := hide hch
        simp only at hcells
        clear hch
        refine more_regionE (base := N) (nb := N) (cb := N + 1) (p0 := g0) (p1 := g1) (x := ⟨⟨vA, vn, vc⟩, ⟨io, im, iA, il, ic⟩, ⟨jo, jm, jA, jl, jc⟩, ⟨eA, en, ec⟩, ⟨sA, sn, sc⟩, ⟨aA, an, ac⟩, ⟨nA, nn, nc⟩, ⟨pA, pn, pc⟩⟩) (op := yo) (nn := yn) (A := yA) (len := yl) (cap := yc) (tA := tA) (tn := tn) (tc := tc) (lA := eA) (ln := en) (lc := ec) (xs := ks.flatten) (by kernel_rfl) (by kernel_rfl) (by kernel_rfl) (by kernel_rfl) ⟨_, _, _, rfl⟩ ⟨_, _, _, rfl⟩ ⟨_, _, _, rfl⟩ ⟨_, _, _, rfl⟩ ⟨_, _, _, rfl⟩ ⟨_, _, _, rfl⟩ ⟨_, _, _, rfl⟩ ⟨_, _, _, rfl⟩ ⟨_, _, _, rfl⟩ ⟨_, _, _, rfl⟩ ⟨_, _, _, rfl⟩ ⟨_, _, _, rfl⟩ ⟨_, _, _, rfl⟩ (by simp) rfl rfl rfl rfl rfl Hcb4.out Hrow4.out Hp04.out Hp14.out ⟨by omega, by omega⟩ ⟨by omega, by omega⟩ ⟨by omega, by omega⟩ ⟨by omega, by omega⟩ n01 (by omega) hlen (fun h => rows_nil6 (Hrm4.out.2.2.2.2.1) h) (fun ad h j u hu => by have := hcells ad h j u hu; exact ⟨by omega, this.2⟩) Hch.out.one (by omega) ?_
        intro u ga cpa gb w5 hr0 how hr1 hgb hrN hcb5 hb5 hz5
        rw [sel_cons, sel_cons, sel_cons, sel_cons, sel_cons, sel_cons, sel_cons, sel_cons, sel_cons, sel_cons, sel_cons, sel_nil]
        generalize u 41 = u41
        generalize u 42 = u42
        generalize u 43 = u43
        generalize u 44 = u44
        generalize u 45 = u45
        generalize u 46 = u46
        generalize u 47 = u47
        generalize u 48 = u48
        generalize u 49 = u49
        generalize u 50 = u50
        generalize u 51 = u51
        clear u
        have Hb5 := hide (Hb4.out.trans hb5)
        have Hrm5 := hide (Hrm4.out.below (hb5.mono (by omega)))
        have Hrc5 := hide (rc_below Hrc4.out (hb5.mono (by omega)))
        have Hrow5 := hide hrN
        have Hp05 := hide (row_env (s := ⟨some ⟨ga, 0, none⟩, en + 1, cpa⟩) hr0)
        have Hp15 := hide (row_env (s := ⟨some ⟨gb, 0, none⟩, 1, 1⟩) hr1)
        have HM5 := hide (rm_env (Hrm5.out.more (B' := w5.heap.size) (by omega)) (cmds_more Hch.out (hb5.mono (by omega)) (by omega) how Hrc5.out))
        have HO5 := hide (rm_env (Hrm5.out.more (B' := w5.heap.size) (by omega)) (cmds_one hgb (by omega) Hrc5.out))
        simp only at Hp05 Hp15 HM5 HO5
        clear hr0 how hr1 hgb hrN hcb5 hb5 Hb4 Hrm4 Hrc4 Hrow4 Hcb4 Hp04 Hp14 Hrc5 hcells Hch
        obtain ⟨q0, q1, q2, q3, q4, q5, q6, q7, q8, q9, q10, q11⟩ := row12 (mV_box Hp15.out)
        simp only at q0 q1 q2 q3 q4 q5 q6 q7 q8 q9 q10 q11
        go_simp
        go_wp2_with fail
        clear q0 q1 q2 q3 q4 q5 q6 q7 q8 q9 q10 q11
        refine (hvx_any w5.heap.size ⟨⟨vA, vn, vc⟩, ⟨io, im, iA, il, ic⟩, ⟨jo, jm, jA, jl, jc⟩, ⟨some ⟨gb, 0, none⟩, 1, 1⟩, ⟨sA, sn, sc⟩, ⟨aA, an, ac⟩, ⟨nA, nn, nc⟩, ⟨pA, pn, pc⟩⟩ _ w5 (Nat.le_refl _) HO5.out).mono ?_
        rintro e w6 ⟨rfl, hb6⟩
        have hz6 := hb6.size
        have Hb6 := hide (Hb5.out.trans (hb6.mono (by omega)))
        have Hrm6 := hide (Hrm5.out.below (hb6.mono (by omega)))
        have Hrow6 := hide (Hrow5.out.of_block (hb6.block _ (by omega)))
        have Hp06 := hide (Hp05.out.of_block (hb6.block _ (by omega)))
        have Hp16 := hide (Hp15.out.of_block (hb6.block _ (by omega)))
        have HM6 := hide (HM5.out.below (hb6.mono (by omega)))
        have HO6 := hide (HO5.out.below (hb6.mono (by omega)))
        clear hb6 Hb5 Hrm5 Hrow5 Hp05 Hp15 HM5 HO5
        generalize hvM { m with env := [c] } = h2v at *
        by_cases hh2 : 0 < h2v
        case pos =>
          have hhc : decide (0 < h2v) = true := by simp [hh2]
          go_wp2_with fail
          refine (awake_any _).mono ?_
          rintro e y1 ⟨rfl, hby⟩
          go_wp2_with fail
          go_ret
          exact ⟨rfl, by rw [hN]; exact Hb6.out.trans (hby.mono (by omega))⟩
        case neg =>
          have hhc : decide (0 < h2v) = false := by simp; omega
          obtain ⟨q0, q1, q2, q3, q4, q5, q6, q7, q8, q9, q10, q11⟩ := row12 (mV_box Hp06.out)
          simp only at q0 q1 q2 q3 q4 q5 q6 q7 q8 q9 q10 q11
          go_wp2_with fail
          clear q0 q1 q2 q3 q4 q5 q6 q7 q8 q9 q10 q11
          refine (rmod_any w5.heap.size ⟨⟨vA, vn, vc⟩, ⟨io, im, iA, il, ic⟩, ⟨jo, jm, jA, jl, jc⟩, ⟨some ⟨ga, 0, none⟩, en + 1, cpa⟩, ⟨sA, sn, sc⟩, ⟨aA, an, ac⟩, ⟨nA, nn, nc⟩, ⟨pA, pn, pc⟩⟩ _ w6 (by omega) HM6.out).mono ?_
          rintro e w7 ⟨rfl, hb7⟩
          have hz7 := hb7.size
          have Hb7 := hide (Hb6.out.trans (hb7.mono (by omega)))
          have Hrm7 := hide (Hrm6.out.below (hb7.mono (by omega)))
          have Hrow7 := hide (Hrow6.out.of_block (hb7.block _ (by omega)))
          have Hp07 := hide (Hp06.out.of_block (hb7.block _ (by omega)))
          have Hp17 := hide (Hp16.out.of_block (hb7.block _ (by omega)))
          have HM7 := hide (HM6.out.below (hb7.mono (by omega)))
          have HO7 := hide (HO6.out.below (hb7.mono (by omega)))
          clear hb7 Hb6 Hrm6 Hrow6 Hp06 Hp16 HM6 HO6
          by_cases hc2 : modE { m with env := m.env ++ [c] } = 0
          case neg =>
            have hcb2 : (modE { m with env := m.env ++ [c] } != 0) = true := by simp [hc2]
            go_wp2_with fail
            refine (awake_any _).mono ?_
            rintro e y1 ⟨rfl, hby⟩
            go_wp2_with fail
            go_ret
            exact ⟨rfl, by rw [hN]; exact Hb7.out.trans (hby.mono (by omega))⟩
          case pos =>
            have hcb2 : (modE { m with env := m.env ++ [c] } != 0) = false := by simp [hc2]
            have Hc2 := hide hc2
            have Hc3 := hide (more_one_env hc2)
            clear hc2
            obtain ⟨q0, _⟩ := row12 (mV_box Hrow7.out)
            simp only at q0
            go_wp2_with fail
            clear q0 hcb2 hhc hh2
            refine (Dom.total_any vA vn vc B m.vars w7 Ho.out.1 (by omega) Hrm7.out.2.1).mono ?_
            rintro e w8 ⟨rfl, hb8⟩
            have hz8 := hb8.size
            have Hb8 := hide (Hb7.out.trans (hb8.mono (by omega)))
            have Hrm8 := hide (Hrm7.out.below (hb8.mono (by omega)))
            have Hrow8 := hide (Hrow7.out.of_block (hb8.block _ (by omega)))
            have Hp08 := hide (Hp07.out.of_block (hb8.block _ (by omega)))
            have Hp18 := hide (Hp17.out.of_block (hb8.block _ (by omega)))
            have HM8 := hide (HM7.out.below (hb8.mono (by omega)))
            have HO8 := hide (HO7.out.below (hb8.mono (by omega)))
            clear hb8 Hb7 Hrm7 Hrow7 Hp07 Hp17 HM7 HO7
            rw [Ht.out]
            have hmod : ∀ (n : Nat) (z : Int), 0 < n → n ≤ 100000 → ∃ q : Nat, q < n ∧ (IntKind.u64.wrap z).tmod (n : Int) = (q : Int) := fun n z hn _ => by
              have h0 : 0 ≤ IntKind.u64.wrap z := by rw [IntKind.wrap_u64]; omega
              have hp : (0 : Int) < (n : Int) := by omega
              have h1 := Int.emod_nonneg (IntKind.u64.wrap z) (show (n : Int) ≠ 0 by omega)
              have h2 := Int.emod_lt_of_pos (IntKind.u64.wrap z) hp
              refine ⟨((IntKind.u64.wrap z).tmod (n : Int)).toNat, ?_, ?_⟩
              · rw [Int.tmod_eq_emod_of_nonneg h0]; omega
              · rw [Int.tmod_eq_emod_of_nonneg h0]; omega
            obtain ⟨q, hqn, hqe⟩ := hmod tt st0 (by omega) (by omega)
            obtain ⟨r, hrn, hre⟩ := hmod tt pk0 (by omega) (by omega)
            have hqw : IntKind.i64.wrap (q : Int) = (q : Int) := by rw [IntKind.wrap_i64]; omega
            have hrw : IntKind.i64.wrap (r : Int) = (r : Int) := by rw [IntKind.wrap_i64]; omega
            have hwN : IntKind.u64.wrap (tt : Int) = (tt : Int) := by rw [IntKind.wrap_u64]; omega
            have hv0' : ¬ (tt : Int) = 0 := by omega
            clear hmod
            go_wp2_with fail
            clear hqe hqw
            have hBW : B ≤ w8.heap.size := by omega
            have Hq21 : Hid (∀ dd os, Calls Try.prog 10 #[.slice vA vn vc] (grow (redrawn w8 dd) os) fun e w'' => e = .returned (.int .i64 (tt : Int)) ∧ ∃ p : Regrown, w'' = grow (redrawn w8 p.d) p.os) := hide (fun dd os => by
              rw [← Ht.out]
              exact Calls.regrown_of (Dom.total_any vA vn vc B m.vars _ Ho.out.1 (Nat.le_trans hBW (below_regrown w8 dd os).size) (Hrm8.out.2.1.below ((below_regrown w8 dd os).mono hBW))))
            have Hq23 : Hid (∀ s e dd os, Calls Try.prog 13 #[.slice vA vn vc, .int .i64 s, .bool e] (grow (redrawn w8 dd) os) fun e' w'' => e' = .returned (.int .i64 (Dom.partL m.vars s e)) ∧ ∃ p : Regrown, w'' = grow (redrawn w8 p.d) p.os) := hide (fun s e dd os =>
              Calls.regrown_of (Dom.part_any vA vn vc B m.vars s e _ Ho.out.1 (Nat.le_trans hBW (below_regrown w8 dd os).size) (Hrm8.out.2.1.below ((below_regrown w8 dd os).mono hBW)) Ho.out.2.2.2))
            have C0 := cell_regrown (row12 (mV_box Hrow8.out)).1
            simp only at C0
            refine wp_region_quiet_below (by kernel_rfl) (by kernel_rfl) ?_
            repeat (go_big_quiet_step (first | (go_at_call 10; exact Hq21.out _ _) | (go_at_call 13; exact Hq23.out _ _ _ _)))
            refine wpQuiet_nil ?_
            intro w9 hw9
            obtain ⟨pp, hpp⟩ := hw9
            have hb9 : Below w8.heap.size w8 w9 := by rw [hpp]; exact below_regrown w8 pp.d pp.os
            clear hpp C0 Hq21 Hq23 hre hrw hwN hv0'
            have hz9 := hb9.size
            have Hb9 := hide (Hb8.out.trans (hb9.mono (by omega)))
            have Hrm9 := hide (Hrm8.out.below (hb9.mono (by omega)))
            have Hrow9 := hide (Hrow8.out.of_block (hb9.block _ (by omega)))
            have Hp09 := hide (Hp08.out.of_block (hb9.block _ (by omega)))
            have Hp19 := hide (Hp18.out.of_block (hb9.block _ (by omega)))
            have HM9 := hide (HM8.out.below (hb9.mono (by omega)))
            have HO9 := hide (HO8.out.below (hb9.mono (by omega)))
            clear hb9 Hb8 Hrm8 Hrow8 Hp08 Hp18 HM8 HO8
            generalize hpk : Dom.partL m.vars (r : Int) true = pk at *
            go_wp2_with fail
            refine calls_regionE (b0 := N) (b1 := g0) (b2 := g1) (x0 := ⟨⟨vA, vn, vc⟩, ⟨io, im, iA, il, ic⟩, ⟨jo, jm, jA, jl, jc⟩, ⟨eA, en, ec⟩, ⟨sA, sn, sc⟩, ⟨aA, an, ac⟩, ⟨nA, nn, nc⟩, ⟨pA, pn, pc⟩⟩) (x1 := ⟨⟨vA, vn, vc⟩, ⟨io, im, iA, il, ic⟩, ⟨jo, jm, jA, jl, jc⟩, ⟨some ⟨ga, 0, none⟩, en + 1, cpa⟩, ⟨sA, sn, sc⟩, ⟨aA, an, ac⟩, ⟨nA, nn, nc⟩, ⟨pA, pn, pc⟩⟩) (x2 := ⟨⟨vA, vn, vc⟩, ⟨io, im, iA, il, ic⟩, ⟨jo, jm, jA, jl, jc⟩, ⟨some ⟨gb, 0, none⟩, 1, 1⟩, ⟨sA, sn, sc⟩, ⟨aA, an, ac⟩, ⟨nA, nn, nc⟩, ⟨pA, pn, pc⟩⟩) (m0 := m) (m1 := { m with env := m.env ++ [c] }) (m2 := { m with env := [c] }) (st := (q : Int)) (pk := pk) (by kernel_rfl) (by kernel_rfl) (by kernel_rfl) (by kernel_rfl) ⟨_, _, _, rfl⟩ ⟨_, _, _, rfl⟩ ⟨_, _, _, rfl⟩ ⟨_, _, _, rfl⟩ ⟨_, _, _, rfl⟩ ⟨_, _, _, rfl⟩ ⟨_, _, _, rfl⟩ ⟨_, _, _, rfl⟩ ⟨_, _, _, rfl⟩ ⟨_, _, _, rfl⟩ ⟨_, _, _, rfl⟩ ⟨_, _, _, rfl⟩ (by simp) rfl rfl rfl rfl rfl (mV_box Hrow9.out) (mV_box Hp09.out) (mV_box Hp19.out) (by omega) (by omega) (by omega) (Hrm9.out.more (by omega)) (HM9.out.more (by omega)) (HO9.out.more (by omega)) ?_
            intro u Oa Ob Od ca cb cd w10 ea eb ed ra rb rd hb10
            rw [sel_cons, sel_cons, sel_cons, sel_cons, sel_cons, sel_cons, sel_cons, sel_cons, sel_cons, sel_cons, sel_cons, sel_cons, sel_nil, ea, eb, ed]
            generalize u 91 = u91
            generalize u 92 = u92
            generalize u 93 = u93
            generalize u 94 = u94
            generalize u 95 = u95
            generalize u 96 = u96
            generalize u 97 = u97
            generalize u 98 = u98
            generalize u 99 = u99
            clear u ea eb ed
            have hz10 := hb10.size
            have Hb10 := hide (Hb9.out.trans (hb10.mono (by omega)))
            have Hrm10 := hide (Hrm9.out.below (hb10.mono (by omega)))
            have Hrow10 := hide (Hrow9.out.of_block (hb10.block _ (by omega)))
            have Hp010 := hide (Hp09.out.of_block (hb10.block _ (by omega)))
            have Hp110 := hide (Hp19.out.of_block (hb10.block _ (by omega)))
            have HM10 := hide (HM9.out.below (hb10.mono (by omega)))
            have HO10 := hide (HO9.out.below (hb10.mono (by omega)))
            clear hb10 Hb9 Hrm9 Hrow9 Hp09 Hp19 HM9 HO9
            have Hall := hide (fun z => more_envL (st := (q : Int)) Hc.out Hc2.out Hc3.out z)
            have Hlt := hide (envL_lt { m with env := m.env ++ [c] } (q : Int))
            have Hme : Hid (∀ x ∈ (envL { m with env := m.env ++ [c] } (q : Int)), Dom.partL m.vars x true = x ∧ 0 ≤ x ∧ x < (tt : Int)) := hide (fun x hx => by have h := envL_mem hx; rw [Ht.out] at h; exact h)
            have hl1 := (any_len512 (m := m) (q : Int) pk).1
            have hl2 := (any_len512 (m := { m with env := m.env ++ [c] }) (q : Int) pk).1
            have hl3 := (any_len512 (m := { m with env := [c] }) (q : Int) pk).1
            have Hra := hide (rif_ri ra)
            have Hrb := hide (rif_ri rb)
            have Hrd := hide (rif_ri rd)
            clear ra rb rd Hc2 Hc3
            generalize (envL m (q : Int)) = la at *
            generalize (envL { m with env := m.env ++ [c] } (q : Int)) = lb at *
            generalize (envL { m with env := [c] } (q : Int)) = ld at *
            have hmm := @run_makeMap Try.prog
            have hbm := (Below.refl w10.heap.size w10).alloc (Nat.le_refl _) (.map #[] 0)
            have Hmap0 := hide (World.ownsMap_made (H := Unit) w10 Try.prog 3 (plainElem Try.prog 3))
            have Hbm := hide hbm
            clear hbm
            go_simp
            go_wp2_with fail
            clear hmm
            generalize w10.alloc (.map #[] 0) = wm at *
            have hzm := Hbm.out.size
            go_loopw [117] (fun i wr => ∃ (k n1 : Nat) (D : DataW Unit) (ks : List Int), k ≤ la.length ∧ i = .int .i64 k ∧ n1 ≤ 0 + k ∧ Hid (wr.ownsMap Try.prog 3 (plainElem Try.prog 3) w10.heap.size n1 D) ∧ Hid (MarkIs D ks) ∧ Hid (∀ y, y ∈ ks ↔ y ∈ la.take k) ∧ Hid (Below w10.heap.size w10 wr)) (fun i _ => la.length - (intOf i).toNat)
            case atStart => exact ⟨0, 0, .map [], [], by omega, rfl, by omega, Hmap0, hide MarkIs.start, hide (fun y => by simp), Hbm⟩
            case round =>
              obtain ⟨ka, n1, D, ks1, hk, rfl, hn1, Hmap, HMk, Hks, Hbr⟩ := hrel
              have hzra := Hbr.out.size
              by_cases hlt : ka < la.length
              · have hlt' : ((ka : Int) < (la.length : Int)) := by omega
                obtain ⟨rb0, ro0, z, eO, hrb0, hzk, cz⟩ := (Hra.out.below Hbr.out).at_ hlt
                subst eO
                have hzr2 := Hme.out z ((Hall.out z).2 (.inl (List.mem_of_getElem? hzk)))
                have Hkey : Hid (keyOf Try.prog 3 (.int .i64 z) = some (.int .i64 z)) := hide (keyOf_int_mk Try.underlying3 (WalkArith.wf_i64 (by omega)))
                have Htk := hide (mem_take6 hzk)
                by_cases hin : z ∈ ks1
                · go_wp2_with (first | (at_lookup; refine wpList_lookup_own_int _ rfl _ _ 42 rfl 3 3 .i64 law3 Try.underlying42 Try.underlying3 (Dom.zero3 _) w10.heap.size n1 D rfl Hmap.out _ _ rfl Hkey.out ?_; intro cc hat hwc; have hcc := one_yes HMk.out.1 hin hat; clear hat hwc) | (at_mapUpdate; (try simp only [or11, or01]); refine wpList_mapUpdate_own _ rfl _ _ _ 42 rfl 3 3 law3 Try.underlying42 _ w10.heap.size n1 D rfl Hmap.out (by unfold maxLen; omega) _ _ _ rfl rfl Hkey.out _ [] (plainElem_int Try.underlying3 (WalkArith.wf_i64 (by omega))) ?_; intro wx hown9 hg9) | go_in)
                  have Hm9 := hide (HMk.out.old hin)
                  have Hb9x := hide (Hbr.out.grown hg9 hzra (fun j hj => by cases hj; exact Nat.le_refl _))
                  have Hk9 := hide (ks_old Hks.out hin)
                  have Hown9 := hide hown9
                  clear hown9 hg9 cz
                  go_roundw
                  case rel => exact ⟨ka + 1, n1 + 1, _, _, by omega, by go_num, by omega, Hown9, Hm9, hide (fun y => by rw [Hk9.out y, Htk.out y]), Hb9x⟩
                  case measure => simp [intOf]; omega
                · go_wp2_with (first | (at_lookup; refine wpList_lookup_own_int _ rfl _ _ 42 rfl 3 3 .i64 law3 Try.underlying42 Try.underlying3 (Dom.zero3 _) w10.heap.size n1 D rfl Hmap.out _ _ rfl Hkey.out ?_; intro cc hat hwc; have hcc := one_no HMk.out.1 hin hat; clear hat hwc) | (at_mapUpdate; (try simp only [or11, or01]); refine wpList_mapUpdate_own _ rfl _ _ _ 42 rfl 3 3 law3 Try.underlying42 _ w10.heap.size n1 D rfl Hmap.out (by unfold maxLen; omega) _ _ _ rfl rfl Hkey.out _ [] (plainElem_int Try.underlying3 (WalkArith.wf_i64 (by omega))) ?_; intro wx hown9 hg9) | go_in)
                  have Hm9 := hide (HMk.out.new hin)
                  have Hb9x := hide (Hbr.out.grown hg9 hzra (fun j hj => by cases hj; exact Nat.le_refl _))
                  have Hk9 := hide (ks_new (z := z) Hks.out)
                  have Hown9 := hide hown9
                  clear hown9 hg9 cz
                  go_roundw
                  case rel => exact ⟨ka + 1, n1 + 1, _, _, by omega, by go_num, by omega, Hown9, Hm9, hide (fun y => by rw [Hk9.out y, Htk.out y]), Hb9x⟩
                  case measure => simp [intOf]; omega
              · have hlt' : ¬ ((ka : Int) < (la.length : Int)) := by omega
                obtain rfl : ka = la.length := by omega
                go_wp2_with fail
                go_loopw [128] (fun i wr => ∃ (k n1 : Nat) (D : DataW Unit) (ks : List Int), k ≤ ld.length ∧ i = .int .i64 k ∧ n1 ≤ la.length + k ∧ Hid (wr.ownsMap Try.prog 3 (plainElem Try.prog 3) w10.heap.size n1 D) ∧ Hid (MarkIs D ks) ∧ Hid (∀ y, y ∈ ks ↔ (y ∈ la ∨ y ∈ ld.take k)) ∧ Hid (Below w10.heap.size w10 wr)) (fun i _ => ld.length - (intOf i).toNat)
                case atStart => exact ⟨0, n1, D, ks1, by omega, rfl, by omega, Hmap, HMk, hide (fun y => by rw [Hks.out y, List.take_length, List.take_zero]; simp), Hbr⟩
                case round =>
                  obtain ⟨kb, n1, D, ks1, hk, rfl, hn1, Hmap, HMk, Hks, Hbr⟩ := hrel
                  have hzrb := Hbr.out.size
                  by_cases hlt : kb < ld.length
                  · have hlt' : ((kb : Int) < (ld.length : Int)) := by omega
                    obtain ⟨rb0, ro0, z, eO, hrb0, hzk, cz⟩ := (Hrd.out.below Hbr.out).at_ hlt
                    subst eO
                    have hzr2 := Hme.out z ((Hall.out z).2 (.inr (List.mem_of_getElem? hzk)))
                    have Hkey : Hid (keyOf Try.prog 3 (.int .i64 z) = some (.int .i64 z)) := hide (keyOf_int_mk Try.underlying3 (WalkArith.wf_i64 (by omega)))
                    have Htk := hide (mem_take6 hzk)
                    by_cases hin : z ∈ ks1
                    · go_wp2_with (first | (at_lookup; refine wpList_lookup_own_int _ rfl _ _ 42 rfl 3 3 .i64 law3 Try.underlying42 Try.underlying3 (Dom.zero3 _) w10.heap.size n1 D rfl Hmap.out _ _ rfl Hkey.out ?_; intro cc hat hwc; have hcc := one_yes HMk.out.1 hin hat; clear hat hwc) | (at_mapUpdate; (try simp only [or11, or01]); refine wpList_mapUpdate_own _ rfl _ _ _ 42 rfl 3 3 law3 Try.underlying42 _ w10.heap.size n1 D rfl Hmap.out (by unfold maxLen; omega) _ _ _ rfl rfl Hkey.out _ [] (plainElem_int Try.underlying3 (WalkArith.wf_i64 (by omega))) ?_; intro wx hown9 hg9) | go_in)
                      have Hm9 := hide (HMk.out.old hin)
                      have Hb9x := hide (Hbr.out.grown hg9 hzrb (fun j hj => by cases hj; exact Nat.le_refl _))
                      have Hk9 := hide (ks_old Hks.out hin)
                      have Hown9 := hide hown9
                      clear hown9 hg9 cz
                      go_roundw
                      case rel => exact ⟨kb + 1, n1 + 1, _, _, by omega, by go_num, by omega, Hown9, Hm9, hide (fun y => by rw [Hk9.out y, Htk.out y]; exact or_assoc), Hb9x⟩
                      case measure => simp [intOf]; omega
                    · go_wp2_with (first | (at_lookup; refine wpList_lookup_own_int _ rfl _ _ 42 rfl 3 3 .i64 law3 Try.underlying42 Try.underlying3 (Dom.zero3 _) w10.heap.size n1 D rfl Hmap.out _ _ rfl Hkey.out ?_; intro cc hat hwc; have hcc := one_no HMk.out.1 hin hat; clear hat hwc) | (at_mapUpdate; (try simp only [or11, or01]); refine wpList_mapUpdate_own _ rfl _ _ _ 42 rfl 3 3 law3 Try.underlying42 _ w10.heap.size n1 D rfl Hmap.out (by unfold maxLen; omega) _ _ _ rfl rfl Hkey.out _ [] (plainElem_int Try.underlying3 (WalkArith.wf_i64 (by omega))) ?_; intro wx hown9 hg9) | go_in)
                      have Hm9 := hide (HMk.out.new hin)
                      have Hb9x := hide (Hbr.out.grown hg9 hzrb (fun j hj => by cases hj; exact Nat.le_refl _))
                      have Hk9 := hide (ks_new (z := z) Hks.out)
                      have Hown9 := hide hown9
                      clear hown9 hg9 cz
                      go_roundw
                      case rel => exact ⟨kb + 1, n1 + 1, _, _, by omega, by go_num, by omega, Hown9, Hm9, hide (fun y => by rw [Hk9.out y, Htk.out y]; exact or_assoc), Hb9x⟩
                      case measure => simp [intOf]; omega
                  · have hlt' : ¬ ((kb : Int) < (ld.length : Int)) := by omega
                    obtain rfl : kb = ld.length := by omega
                    have Hks2 : Hid (∀ y, y ∈ ks1 ↔ y ∈ lb) := hide (fun y => by rw [Hks.out y, Hall.out y, List.take_length])
                    have hsz6 : Maps.size D = lb.length := by rw [HMk.out.2.2.1]; exact nodup_len HMk.out.2.2.2.1 (lt_nodup Hlt.out) Hks2.out
                    have hszb : ((lb.length : Int) != (Maps.size D : Int)) = false := by rw [hsz6]; simp
                    clear hsz6
                    go_wp2_with (at_len; refine wpList_len_own _ rfl _ 42 rfl 3 3 Try.underlying42 _ w10.heap.size n1 D rfl Hmap.out ?_)
                    clear hszb
                    go_loopw [144] (fun i wr => ∃ (j : Nat), j ≤ lb.length ∧ i = .int .i64 j ∧ Hid (wr.ownsMap Try.prog 3 (plainElem Try.prog 3) w10.heap.size n1 D) ∧ Hid (Below w10.heap.size w10 wr)) (fun i _ => lb.length - (intOf i).toNat)
                    case atStart => exact ⟨0, by omega, rfl, Hmap, Hbr⟩
                    case round =>
                      obtain ⟨j, hj, rfl, Hmj, Hbj⟩ := hrel
                      have hzj := Hbj.out.size
                      by_cases hlt3 : j < lb.length
                      · have hlt3' : ((j : Int) < (lb.length : Int)) := by omega
                        obtain ⟨rb0, ro0, x, eO, hrb0, hxj, cx⟩ := (Hrb.out.below Hbj.out).at_ hlt3
                        have hin : x ∈ ks1 := (Hks2.out x).2 (List.mem_of_getElem? hxj)
                        obtain ⟨hxp, hx0, hx1⟩ := Hme.out x (List.mem_of_getElem? hxj)
                        have Hkey : Hid (keyOf Try.prog 3 (.int .i64 x) = some (.int .i64 x)) := hide (keyOf_int_mk Try.underlying3 (WalkArith.wf_i64 (by omega)))
                        have hpb : (Dom.partL m.vars x true != x) = false := by simp [hxp]
                        clear hxp
                        obtain ⟨q0, _⟩ := row12 ((mV_box Hrow10.out).below Hbj.out (by omega))
                        simp only at q0
                        have Hprev : Hid (0 < j → ∃ y, lb[j - 1]? = some y ∧ wr.cell? ⟨rb0, ro0 + (j - 1), none⟩ = some (.int .i64 y) ∧ y < x) := hide (fun h0 => by
                          obtain ⟨b2, o2, y, e2, _, hy, cy⟩ := (Hrb.out.below Hbj.out).at_ (k := j - 1) (by omega)
                          rw [eO] at e2
                          injection e2 with e2
                          injection e2 with e3 e4
                          subst e3; subst e4
                          refine ⟨y, hy, cy, lt_take Hlt.out hxj ?_⟩
                          rw [List.mem_iff_getElem?]
                          exact ⟨j - 1, by rw [List.getElem?_take_of_lt (by omega)]; exact hy⟩)
                        subst eO
                        by_cases hj0 : j = 0
                        · subst hj0
                          rw [Nat.add_zero] at cx
                          go_wp2_with (at_lookup; refine wpList_lookup_own_int _ rfl _ _ 42 rfl 3 3 .i64 law3 Try.underlying42 Try.underlying3 (Dom.zero3 _) w10.heap.size n1 D rfl Hmj.out _ _ rfl Hkey.out ?_; intro cc hat hwc; have hcc := one_yes HMk.out.1 hin hat; clear hat hwc)
                          clear q0 cx
                          refine (Dom.part_any vA vn vc B m.vars x true wr Ho.out.1 (by omega) (Hrm10.out.2.1.below (Hbj.out.mono (by omega))) Ho.out.2.2.2).mono ?_
                          rintro e wp ⟨rfl, hbp⟩
                          have Hmp := hide (onl_map Hmj.out hbp)
                          have Hbp := hide (Hbj.out.trans (hbp.mono hzj))
                          clear hbp
                          go_wp2_with fail
                          go_roundw
                          case rel => exact ⟨0 + 1, by omega, by go_num, Hmp, Hbp⟩
                          case measure => simp [intOf]; omega
                        · obtain ⟨y, hyj, cy, hyx⟩ := Hprev.out (by omega)
                          have hgt : decide (0 < (j : Int)) = true := by simp; omega
                          have hgt2 : decide (0 < j) = true := by simp; omega
                          have hle : decide (x ≤ y) = false := by simp; omega
                          have hjw : wrap64 ((j : Int) - 1) = ((j - 1 : Nat) : Int) := by rw [Dom.wrap64_mid _ (by omega) (by omega)]; omega
                          have hj1 : (((j - 1 : Nat) : Int) < (lb.length : Int)) := by omega
                          go_wp2_with (at_lookup; refine wpList_lookup_own_int _ rfl _ _ 42 rfl 3 3 .i64 law3 Try.underlying42 Try.underlying3 (Dom.zero3 _) w10.heap.size n1 D rfl Hmj.out _ _ rfl Hkey.out ?_; intro cc hat hwc; have hcc := one_yes HMk.out.1 hin hat; clear hat hwc)
                          clear q0 cx cy hgt hgt2 hle hjw hj1
                          refine (Dom.part_any vA vn vc B m.vars x true wr Ho.out.1 (by omega) (Hrm10.out.2.1.below (Hbj.out.mono (by omega))) Ho.out.2.2.2).mono ?_
                          rintro e wp ⟨rfl, hbp⟩
                          have Hmp := hide (onl_map Hmj.out hbp)
                          have Hbp := hide (Hbj.out.trans (hbp.mono hzj))
                          clear hbp
                          go_wp2_with fail
                          go_roundw
                          case rel => exact ⟨j + 1, by omega, by go_num, Hmp, Hbp⟩
                          case measure => simp [intOf]; omega
                      · have hlt3' : ¬ ((j : Int) < (lb.length : Int)) := by omega
                        go_wp2_with fail
                        refine (awake_any _).mono ?_
                        rintro e y1 ⟨rfl, hby⟩
                        go_wp2_with fail
                        go_ret
                        exact ⟨rfl, by rw [hN]; exact (Hb10.out.trans (Hbj.out.mono (by omega))).trans (hby.mono (by omega))⟩
end Go.Proofs.Ytohegmnfmomjaaa
