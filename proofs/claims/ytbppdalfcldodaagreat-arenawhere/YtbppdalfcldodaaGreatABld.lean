/- The walk of the reference's Build. -/
import Derived.Test.YtbppdalfcldodaaGreatGBl
import Derived.Test.YtbppdalfcldodaaGreatGSrt
import Derived.Test.YtbppdalfcldodaaGreatABuild
import Derived.Test.YtbppdalfcldodaaGreatGRefC
set_option maxRecDepth 100000
namespace Go.Proofs.YtbppdalfcldodaaGreat
open Go.RowKit Ex
set_option linter.unusedSimpArgs false
set_option linter.unusedVariables false
theorem info3M : (Tryz.prog.info? 3).map (fun i => (i.zero, i.size, i.bytes)) = some (some (.int .i64 0), 1, 8) := by kernel_rfl
theorem make_ints (n : Nat) (hn : n ≤ 2 ^ 40) (w : World) : (Instr.makeSlice 32 (.int .i64 (n : Int)) (.int .i64 (n : Int))).run Tryz.prog w = .ok (.slice (some ⟨w.heap.size, 0, none⟩) n n) (w.alloc (.cells (madeCells #[.int .i64 0] n) 3)) :=
  run_make_row' 32 3 (.int .i64 0) 8 Tryz.underlying32 info3M rfl .i64 .i64 n (by omega) (by omega) w
set_option maxHeartbeats 16000000 in
theorem rbuild_any (B : Nat) (x : M8) (m : MT) (w : World) (hB : B ≤ w.heap.size) (hrm : RM w B x m) (hT : modE m = 0 → totN m ≤ 24) :
    Calls Tryz.prog 12 #[.agg x.cells] w (ArenaPost w m) := by
  have hbx : Below w.heap.size w ((w.alloc (.cells x.cells 28)).alloc (.cells #[.slice none 0 0, .slice none 0 0, .slice none 0 0] 38)) := ((Below.refl w.heap.size w).alloc (Nat.le_refl _) (.cells x.cells 28)).alloc (by simp) (.cells #[.slice none 0 0, .slice none 0 0, .slice none 0 0] 38)
  have Hrm := hide (hrm.below (hbx.mono hB))
  have Ho := hide hrm.1
  have Hbo := hide ((boxM_new w x).below ((Below.refl _ _).alloc (Nat.le_refl _) (.cells #[.slice none 0 0, .slice none 0 0, .slice none 0 0] 38)) (by simp))
  have hrb : ((w.alloc (.cells x.cells 28)).alloc (.cells #[.slice none 0 0, .slice none 0 0, .slice none 0 0] 38)).heap[w.heap.size + 1]? = some (.cells #[.slice none 0 0, .slice none 0 0, .slice none 0 0] 38 (0, 0)) := by
    have := heap_alloc_new (w.alloc (.cells x.cells 28)) (.cells #[.slice none 0 0, .slice none 0 0, .slice none 0 0] 38)
    rw [World.size_alloc] at this; exact this
  have Hrb := hide hrb
  have Hb0 := hide hbx
  have hz2 : ((w.alloc (.cells x.cells 28)).alloc (.cells #[.slice none 0 0, .slice none 0 0, .slice none 0 0] 38)).heap.size = w.heap.size + 2 := by simp
  clear hrm hbx hrb
  obtain ⟨⟨vA, vn, vc⟩, ⟨io, im, iA, il, ic⟩, ⟨jo, jm, jA, jl, jc⟩, ⟨eA, en, ec⟩, ⟨sA, sn, sc⟩, ⟨aA, an, ac⟩, ⟨nA, nn, nc⟩, ⟨pA, pn, pc⟩⟩ := x
  simp only [M8.cells, SL.v] at *
  obtain ⟨q0, q1, q2, q3, q4, q5, q6, q7, q8, q9, q10, q11⟩ := row12 Hbo.out
  simp only at q0 q1 q2 q3 q4 q5 q6 q7 q8 q9 q10 q11
  go_enter Tryz.func12, Tryz.ntmps12
  go_wp2_with fail
  clear q0 q1 q2 q3 q4 q5 q6 q7 q8 q9 q10 q11
  generalize (w.alloc (.cells #[.slice vA vn vc, .int .i64 io, .int .i64 im, .slice iA il ic, .int .i64 jo, .int .i64 jm, .slice jA jl jc, .slice eA en ec, .slice sA sn sc, .slice aA an ac, .slice nA nn nc, .slice pA pn pc] 28)).alloc (.cells #[.slice none 0 0, .slice none 0 0, .slice none 0 0] 38) = w0 at *
  refine (rmod_any B ⟨⟨vA, vn, vc⟩, ⟨io, im, iA, il, ic⟩, ⟨jo, jm, jA, jl, jc⟩, ⟨eA, en, ec⟩, ⟨sA, sn, sc⟩, ⟨aA, an, ac⟩, ⟨nA, nn, nc⟩, ⟨pA, pn, pc⟩⟩ m w0 (by omega) Hrm.out).mono ?_
  rintro e w2 ⟨rfl, hb2⟩
  have hz3 := hb2.size
  have Hb2 := hide (Hb0.out.trans (hb2.mono (by omega)))
  have Hrm2 := hide (Hrm.out.below (hb2.mono (by omega)))
  have Hbo2 := hide (Hbo.out.below hb2 (by omega))
  have hrb2 : w2.heap[w.heap.size + 1]? = some (.cells #[.slice none 0 0, .slice none 0 0, .slice none 0 0] 38 (0, 0)) := (hb2.block _ (by omega)).trans Hrb.out
  have Hrb2 := hide hrb2
  clear hb2 Hb0 Hrm Hbo Hrb
  by_cases hc : modE m = 0
  case neg =>
    have hcb : (modE m != 0) = true := by simp [hc]
    have Hag : Hid (arOwn m = [] ∧ arNxt m = [] ∧ arAt m = []) := hide ⟨by unfold arOwn arAt; rw [if_neg hc]; rfl, by unfold arNxt; rw [if_neg hc], by unfold arAt; rw [if_neg hc]⟩
    obtain ⟨c0, c1, c2, f0, f1, f2⟩ := box3_cells hrb2
    clear hrb2 hc
    go_wp2_with fail
    obtain ⟨s0, s1, s2, _⟩ := box3_cells (box3_at Hrb2.out (.slice none 0 0) (.slice none 0 0) (.slice none 0 0))
    refine bodyPost_ret (v := .tuple #[.agg #[.slice none 0 0, .slice none 0 0, .slice none 0 0], .int .i64 (modE m)]) (by simp [results, Tryz.results12, go_sem, s0, s1, s2]) rfl ?_
    obtain ⟨e1, e2, e3⟩ := Hag.out
    refine ⟨⟨none, 0, 0⟩, ⟨none, 0, 0⟩, ⟨none, 0, 0⟩, rfl, by rw [e1, e2]; exact rg_nil _ _, by rw [e3]; exact rvx_nil _ _, set3_below Hb2.out (by omega) _ _ _⟩
  case pos =>
    have hcb : (modE m != 0) = false := by simp [hc]
    have hT := hT hc
    have Hag : Hid (arOwn m = (atL m).map ownV ∧ arNxt m = nextL m ∧ arAt m = atL m) := hide ⟨by unfold arOwn arAt; rw [if_pos hc], by unfold arNxt; rw [if_pos hc], by unfold arAt; rw [if_pos hc]⟩
    have He : Hid (modE m = 0) := hide hc
    obtain ⟨q0, _⟩ := row12 Hbo2.out
    simp only at q0
    clear hrb2 hc
    go_wp2_with fail
    clear q0
    refine (Dom.rtotal_any vA vn vc B m.vars w2 Ho.out.1 Ho.out.2.1 Ho.out.2.2.1 (by omega) Hrm2.out.2.1 Ho.out.2.2.2).mono ?_
    rintro e w3 ⟨rfl, hb3⟩
    have hz4 := hb3.size
    have Hb3 := hide (Hb2.out.trans (hb3.mono (by omega)))
    have Hrm3 := hide (Hrm2.out.below (hb3.mono (by omega)))
    have Hbo3 := hide (Hbo2.out.below hb3 (by omega))
    have Hrb3 := hide ((hb3.block _ (by omega)).trans Hrb2.out)
    clear hb3 Hb2 Hrm2 Hbo2 Hrb2
    obtain ⟨t, ht, htn, ht24⟩ : ∃ t : Nat, Dom.totL m.vars = (t : Int) ∧ totN m = t ∧ t ≤ 24 := ⟨totN m, by unfold totN; have := (Dom.totL_bd m.vars).1; omega, rfl, hT⟩
    rw [ht]
    have Htn := hide htn
    have htt : t * t ≤ 576 := Nat.mul_le_mul ht24 ht24
    have hmk := make_ints t (by omega)
    have hmk2 := make_ints (t * t) (by omega)
    rw [Int.natCast_mul] at hmk2
    have hw1 : IntKind.i64.wrap ((t : Int) * (t : Int)) = ((t * t : Nat) : Int) := by rw [IntKind.wrap_i64]; push_cast; have : (t : Int) * t ≤ 576 := by exact_mod_cast htt
                                                                                      have : 0 ≤ (t : Int) * t := Int.mul_nonneg (by omega) (by omega)
                                                                                      omega
    clear ht htn
    go_wp2_with fail
    clear hmk hmk2 hw1
    obtain ⟨hst, hbs⟩ := at_start w3 t
    unfold W5 at hst hbs
    have Hst := hide hst
    have Hbs := hide hbs
    clear hst hbs
    generalize hlo : w3.heap.size = lo at *
    go_loopw [10] (fun i wr => ∃ (k : Nat) (s ow nx : SL) (vs : List Value), i = .int .i64 k ∧ k ≤ (goV m k).1.length ∧ s.n = (goV m k).1.length ∧ ow.n = k ∧ nx.n = k ∧ Sep lo wr (bIts lo (lo + 1 + 1 + 1 + 1) lo (lo + 1) (lo + 1 + 1) t s ow nx (goV m k).1 (((goV m k).1.take k).map ownV) vs (goV m k).2) ∧ Below lo w3 wr) (fun i _ => 700 - (intOf i).toNat)
    case atStart => exact ⟨0, ⟨some ⟨lo + 1 + 1 + 1, 0, none⟩, 1, 1⟩, ⟨none, 0, 0⟩, ⟨none, 0, 0⟩, [], rfl, Nat.zero_le _, rfl, rfl, rfl, Hst.out, Hbs.out⟩
    case round =>
      obtain ⟨k, s, ow, nx, vs, rfl, hk, hsn, hon, hnn, hsep, hbl⟩ := hrel
      have Hbl := hide hbl
      have hzr := hbl.size
      have hlen := go_len hT k
      have HT24 := hide hT
      obtain ⟨zA, n, zc⟩ := s
      simp only at hsn
      have Hnl : Hid (n = (goV m k).1.length) := hide hsn
      have hkn : k ≤ n := by omega
      have hn625 : n ≤ 625 := by omega
      have Hsep := hide hsep
      have hbox : wr.heap[(lo + 1 + 1 + 1 + 1)]? = some (.cells #[ow.v, nx.v, .slice zA n zc] 38 (0, 0)) := hsep.all (itBox (lo + 1 + 1 + 1 + 1) #[ow.v, nx.v, .slice zA n zc] 38) (List.mem_of_getElem? (i := 0) rfl)
      have hatr : wr.ownsRow lo 57 3 (.slice zA n zc) n (vxs (goV m k).1) := hsep.all (itOwn lo 57 3 ⟨zA, n, zc⟩ (vxs (goV m k).1)) (List.mem_of_getElem? (i := 1) rfl)
      have Hvx := hide (vx_rows hatr)
      obtain ⟨f0, f1, f2, g0, g1, g2⟩ := box3_cells hbox
      simp only [SL.v] at f0 f1
      clear hsep hbl hbox hatr hsn
      by_cases hlt : k < n
      · have hlt' : ((k : Int) < (n : Int)) := by omega
        obtain ⟨pb, po, p, q, r, ePs, hpb, hpk, cp, cq, cr⟩ := RVx.at_ Hvx.out hlt
        subst ePs
        have Hok := hide ((go_ok m k).ok _ (List.mem_of_getElem? hpk))
        have Hpk := hide hpk
        have Hgo : Hid (goV m (k + 1) = (addL (goV m k).1 (succV m (p, q, r)), (goV m k).2 ++ [sortI ((succV m (p, q, r)).map (numI (addL (goV m k).1 (succV m (p, q, r)))))])) := hide (by simp only [goV, hpk])
        have Hxb := hide (Sep.new (i := itBox wr.heap.size #[.int .i64 p, .int .i64 q, .int .i64 r] 57) Hsep.out ((Below.refl _ _).alloc (Nat.le_refl _) _) (by omega) (heap_alloc_new wr _) (by simp [itBox]) (fun z hz => by simp [itBox] at hz; subst hz; simp))
        have Hbl1 := hide (Hbl.out.alloc (by omega) (.cells #[.int .i64 p, .int .i64 q, .int .i64 r] 57))
        have hz1 : (wr.alloc (.cells #[.int .i64 p, .int .i64 q, .int .i64 r] 57)).heap.size = wr.heap.size + 1 := by simp
        clear hpk
        go_upto_region 15 with fail
        clear f0 f1 f2 g0 g1 g2 cp cq cr
        generalize hX : wr.heap.size = X at *
        generalize wr.alloc (.cells #[.int .i64 p, .int .i64 q, .int .i64 r] 57) = w1 at *
        have Hrm1 := hide (Hrm3.out.below (Hbl1.out.mono (by omega)))
        have Hbor := hide (Hbo3.out.below Hbl1.out (by omega))
        obtain ⟨q0, q1, q2, q3, q4, q5, q6, q7, q8, q9, q10, q11⟩ := row12 Hbor.out
        simp only at q0 q1 q2 q3 q4 q5 q6 q7 q8 q9 q10 q11
        have hxh := Hxb.out.head
        have x0 : w1.cell? ⟨X, 0, none⟩ = some (.int .i64 p) := by rw [Lib.cell_of_heap hxh]; rfl
        have x1 : w1.cell? ⟨X, 1, none⟩ = some (.int .i64 q) := by rw [Lib.cell_of_heap hxh]; rfl
        have x2 : w1.cell? ⟨X, 2, none⟩ = some (.int .i64 r) := by rw [Lib.cell_of_heap hxh]; rfl
        clear hxh
        rcases Hok.out with e | ⟨p2, e, hp0, hp1⟩ | ⟨s2, e, hs0, hs1⟩ | ⟨s2, p2, e, hs0, hs1, hp0, hp1⟩
        · simp only [rootV, Prod.mk.injEq] at e
          obtain ⟨rfl, rfl, rfl⟩ := e
          have Hss : Hid (∀ p ∈ (initEnvL m), OkV (totN m) (startV p)) := hide (fun p hp => succ_ok Hok.out (by unfold succV; simp [rootV, startV, envV, sysV]; exact hp))
          have Hsv : Hid (succV m (1, 0, 0) = (initEnvL m).map startV) := hide (by unfold succV; simp)
          have hsl : (initEnvL m).length ≤ 512 := by have h := succ_len m (1, 0, 0); rw [Hsv.out, List.length_map] at h; exact h
          go_wp2_with fail
          refine (rinitE_any B ⟨⟨vA, vn, vc⟩, ⟨io, im, iA, il, ic⟩, ⟨jo, jm, jA, jl, jc⟩, ⟨eA, en, ec⟩, ⟨sA, sn, sc⟩, ⟨aA, an, ac⟩, ⟨nA, nn, nc⟩, ⟨pA, pn, pc⟩⟩ m w1 (by omega) Hrm1.out).mono ?_
          rintro e w4 ⟨O5, n5, c5, rfl, hrow5, hn5, hb5⟩
          have Hsep5 := hide (its_new Hxb.out hb5 (by omega) hrow5)
          have Hbl5 := hide (Hbl1.out.trans (hb5.mono (by omega)))
          have Hn5 := hide hn5
          have hn5b : n5 ≤ 512 := by omega
          have hxh5 := Hsep5.out.all (itBox X #[.int .i64 1, .int .i64 0, .int .i64 0] 57) (List.mem_of_getElem? (i := 1) rfl)
          have y0 : w4.cell? ⟨X, 0, none⟩ = some (.int .i64 1) := by rw [Lib.cell_of_heap hxh5]; rfl
          clear hrow5 hb5 hn5 Hxb Hbl1 q0 q1 q2 q3 q4 q5 q6 q7 q8 q9 q10 q11 hxh5
          go_wp2_with fail
          clear y0
          go_loopw [13, 107] (fun nv ci wr => ∃ (j : Nat) (nr s1 : SL), j ≤ n5 ∧ ci = .int .i64 j ∧ nv = nr.v ∧ nr.n = j ∧ s1.n = (addL (goV m k).1 (((initEnvL m).take j).map startV)).length ∧ Sep lo wr (itOwn lo 3 1 nr (ints (nextJ (goV m k).1 startV (initEnvL m) j)) :: itBox X #[.int .i64 1, .int .i64 0, .int .i64 0] 57 :: itOwn lo 3 1 ⟨O5, n5, c5⟩ (ints (initEnvL m)) :: bIts lo (lo + 1 + 1 + 1 + 1) lo (lo + 1) (lo + 1 + 1) t s1 ow nx (addL (goV m k).1 (((initEnvL m).take j).map startV)) (((goV m k).1.take k).map ownV) vs (goV m k).2) ∧ Below lo w3 wr) (fun _ ci _ => n5 - (intOf ci).toNat)
          case atStart => exact ⟨0, ⟨none, 0, 0⟩, ⟨some ⟨pb, po, none⟩, n, zc⟩, Nat.zero_le _, rfl, rfl, rfl, Hnl.out, Hsep5.out, Hbl5.out⟩
          case round =>
            obtain ⟨j, nr, s1, hj, rfl, rfl, hnr, hs1, hsep, hblq⟩ := hrel
            have Hsep := hide hsep
            have Hblq := hide hblq
            have hzq := hblq.size
            have hlst := hsep.all (itOwn lo 3 1 ⟨O5, n5, c5⟩ (ints (initEnvL m))) (List.mem_of_getElem? (i := 2) rfl)
            have Hlst := hide (Gr.own_ri hlst)
            have Hs1 := hide hs1
            clear hsep hblq hlst hs1
            generalize hLB : itOwn lo 3 1 ⟨O5, n5, c5⟩ (ints (initEnvL m)) = LBI at *
            by_cases hltj : j < n5
            · have hltj' : ((j : Int) < (n5 : Int)) := by omega
              obtain ⟨lb, lof, p, eL, hlb, hpk2, cpp⟩ := Gr.RI.at_ Hlst.out hltj
              subst eL
              have hpm := List.mem_of_getElem? hpk2
              obtain ⟨hp0, hpT⟩ := initE_bd hpm
              rw [Htn.out] at hpT
              obtain ⟨pz, rfl⟩ := Int.eq_ofNat_of_zero_le hp0
              have hpn : pz < t := by omega
              have hpn0 : (0 : Int) ≤ (pz : Int) := by omega
              have hpn1 : (pz : Int) < (t : Int) := by omega
              have Hsl := hide (addj_succ (l := (goV m k).1) (f := startV) hpk2)
              have Hsn := hide (next_succ (l := (goV m k).1) (f := startV) hpk2)
              have hlj := (addj_ok (k := k) (j := j) (f := startV) HT24.out Hss.out).2
              clear hpk2 hpm hp0 hpT
              generalize hLL : (addL (goV m k).1 (((initEnvL m).take j).map startV)) = LL at *
              have hsl : s1.n ≤ 625 := by rw [Hs1.out]; omega
              obtain ⟨zA, zn, zc2⟩ := s1
              obtain ⟨nA2, nk, nc2⟩ := nr
              simp only at hnr hsl
              subst hnr
              have ht1 := (its_1 Hsep.out).cell (i := pz) hpn
              have hf1 := (its_1 Hsep.out).frozen pz
              unfold tabS at ht1
              obtain ⟨i3, hi0, hy0, hy1, hy2⟩ := info3A
              have Hi0 := hide hi0; have Hy0 := hide hy0; have Hy1 := hide hy1; have Hy2 := hide hy2
              clear hi0 hy0 hy1 hy2
              have hnj : nk ≤ 512 := by omega
              by_cases hin : (startV (pz : Int)) ∈ LL
              focus
                have hadd : addV LL (startV (pz : Int)) = LL := if_pos hin
                obtain ⟨z, hz, hzl, _⟩ := numI_get hin
                rw [tab_in hin, hz] at ht1
                have Hz : Hid (numI (addL (goV m k).1 (((initEnvL m).take (nk + 1)).map startV)) (startV (pz : Int)) = (z : Int)) := hide (by rw [Hsl.out, hadd, hz])
                have hz9 : z ≤ 625 := by omega
                have hne : ((z : Int) + 1 == 0) = false := by simp; omega
                obtain ⟨s2, hs2⟩ : ∃ s2, s2 = SL.mk zA zn zc2 := ⟨_, rfl⟩
                have Hsep8 : Hid (Sep lo wr (itOwn lo 3 1 ⟨nA2, nk, nc2⟩ (ints (nextJ (goV m k).1 startV (initEnvL m) nk)) :: itBox X #[.int .i64 1, .int .i64 0, .int .i64 0] 57 :: LBI :: bIts lo (lo + 1 + 1 + 1 + 1) lo (lo + 1) (lo + 1 + 1) t s2 ow nx (addL (goV m k).1 (((initEnvL m).take (nk + 1)).map startV)) (((goV m k).1.take k).map ownV) vs (goV m k).2)) := hide (by rw [Hsl.out, hadd, hs2]; exact Hsep.out)
                have Hs8 : Hid (s2.n = (addL (goV m k).1 (((initEnvL m).take (nk + 1)).map startV)).length) := hide (by rw [Hsl.out, hadd, hs2]; exact Hs1.out)
                have Hbl8 := Hblq
                clear hin hz hzl hadd hs2
                go_upto_region 35 with fail
                clear ht1 hf1 hne
                obtain ⟨w8, rfl⟩ : ∃ w8, w8 = wr := ⟨_, rfl⟩
              rotate_left
              focus
                have hadd : addV LL (startV (pz : Int)) = LL ++ [(startV (pz : Int))] := if_neg hin
                rw [tab_out hin] at ht1
                have Hz : Hid (numI (addL (goV m k).1 (((initEnvL m).take (nk + 1)).map startV)) (startV (pz : Int)) = (zn : Int)) := hide (by rw [Hsl.out, hadd, numI_new hin, ← Hs1.out])
                have hbx := its_box Hsep.out
                obtain ⟨f0, f1, f2, g0, g1, g2⟩ := box3_cells hbx
                have Hat := hide (its_at Hsep.out)
                have hfar : ∀ b, (SL.v ⟨zA, zn, zc2⟩).ownBlock = some b → b ≠ (lo + 1 + 1 + 1 + 1) ∧ b ≠ lo ∧ b ≠ (lo + 1) ∧ b ≠ (lo + 1 + 1) ∧ lo ≤ b ∧ b < wr.heap.size := fun b hb => its_far Hsep.out hb
                have Hfar := hide hfar
                have hAl : (lo + 1 + 1 + 1 + 1) < wr.heap.size := (Array.getElem?_eq_some_iff.1 hbx).1
                obtain ⟨i7, hi0, hy0, hy1, hy2⟩ := info57
                have Hj0 := hide hi0; have Hk0 := hide hy0; have Hk1 := hide hy1; have Hk2 := hide hy2
                have Hin := hide hin
                have Hadd := hide hadd
                clear hi0 hy0 hy1 hy2 hbx hfar hin hadd f0 f1 g0 g1
                simp only [SL.v] at f2
                have k2 : ∀ o : Obj, (wr.alloc o).cell? ⟨(lo + 1 + 1 + 1 + 1), 2, none⟩ = some (.slice zA zn zc2) := fun o => (World.cell?_alloc_lt _ _ _ (show (lo + 1 + 1 + 1 + 1) < wr.heap.size by omega)).trans f2
                go_upto_region 34 with (at_builtin; refine wpList_append_lies _ rfl _ _ _ rfl lo 57 i7 _ 3 24 Tryz.underlying36 Hj0.out Hk0.out Hk1.out Hk2.out rfl (by omega) (.slice zA zn zc2) zn (vxs LL) rfl (kept_new Hat.out _) ⟨wr.heap.size, 0, none⟩ 1 1 [.int .i64 2, .int .i64 0, .int .i64 (pz : Int)] (by rfl) rfl (World.news_of_block (cs := #[.int .i64 2, .int .i64 0, .int .i64 (pz : Int)]) (t := 57) (fr := (0, 0)) (heap_alloc_new wr _)) (by simp [Value.oneCell']) (by omega) (by unfold maxLen; omega) (by omega) (by simp; omega) _ rfl ?_; intro gg cap w6 hown6 hgrow hat hlt6; have c6 : w6.cell? ⟨(lo + 1 + 1 + 1 + 1), 2, none⟩ = some (.slice zA zn zc2) := (World.grownBy.cell_far hgrow ⟨(lo + 1 + 1 + 1 + 1), 2, none⟩ (by simp; omega) (fun e => (Hfar.out _ e.symm).1 rfl)).trans (k2 _); have z6 : w6.frozen? ⟨(lo + 1 + 1 + 1 + 1), 2, none⟩ = false := (World.grownBy.frozen_far hgrow ⟨(lo + 1 + 1 + 1 + 1), 2, none⟩ (by simp; omega) (fun e => (Hfar.out _ e.symm).1 rfl)).trans ((World.frozen?_of_block (a := ⟨(lo + 1 + 1 + 1 + 1), 2, none⟩) (Below.heap_alloc wr _ _ (show (lo + 1 + 1 + 1 + 1) < wr.heap.size by omega))).trans g2))
                have Hb6 := hide ((Hblq.out.alloc (by omega) (.cells #[.int .i64 2, .int .i64 0, .int .i64 (pz : Int)] 57)).grown hgrow (by simp; omega) (fun b hb => (Hfar.out b hb).2.2.2.2.1))
                have h7 := at_grow (x := (startV (pz : Int))) Hsep.out ((Below.refl _ _).alloc (Nat.le_refl _) _) hgrow hat (by rw [← vxs_snoc]; exact hown6)
                have Hb7 := hide (Hb6.out.setCell (p := ⟨(lo + 1 + 1 + 1 + 1), 2, none⟩) (by show lo ≤ (lo + 1 + 1 + 1 + 1); omega) (.slice (some ⟨gg, 0, none⟩) (zn + 1) cap))
                have H7 := hide h7
                clear h7 hgrow hat hown6 hlt6 c6 z6 k2 f2 g2 ht1 hf1
                generalize w6.setCell ⟨(lo + 1 + 1 + 1 + 1), 2, none⟩ (.slice (some ⟨gg, 0, none⟩) (zn + 1) cap) = w7 at *
                obtain ⟨_, _, f2, _, _, _⟩ := box3_cells (its_box H7.out)
                simp only [SL.v] at f2
                have ht1 := (its_1 H7.out).cell (i := pz) hpn
                have hf1 := (its_1 H7.out).frozen pz
                obtain ⟨u1, hu1⟩ : ∃ u1, u1 = tabS LL pz := ⟨_, rfl⟩
                rw [← hu1] at ht1
                clear hu1
                go_upto_region 35 with fail
                have h8 := t1_set (x := (0, 0, (pz : Int))) (p := pz) H7.out rfl Hin.out
                have Hb8 := hide (Hb7.out.setCell (p := ⟨lo, pz, none⟩) (by show lo ≤ lo; omega) (.int .i64 ((zn : Int) + 1)))
                rw [← Hs1.out] at h8
                obtain ⟨s2, hs2⟩ : ∃ s2, s2 = SL.mk (some ⟨gg, 0, none⟩) (zn + 1) cap := ⟨_, rfl⟩
                have Hsep8 : Hid (Sep lo (w7.setCell ⟨lo, pz, none⟩ (.int .i64 ((zn : Int) + 1))) (itOwn lo 3 1 ⟨nA2, nk, nc2⟩ (ints (nextJ (goV m k).1 startV (initEnvL m) nk)) :: itBox X #[.int .i64 1, .int .i64 0, .int .i64 0] 57 :: LBI :: bIts lo (lo + 1 + 1 + 1 + 1) lo (lo + 1) (lo + 1 + 1) t s2 ow nx (addL (goV m k).1 (((initEnvL m).take (nk + 1)).map startV)) (((goV m k).1.take k).map ownV) vs (goV m k).2)) := hide (by rw [Hsl.out, Hadd.out, hs2]; exact h8)
                have Hs8 : Hid (s2.n = (addL (goV m k).1 (((initEnvL m).take (nk + 1)).map startV)).length) := hide (by rw [Hsl.out, Hadd.out, hs2, List.length_append, ← Hs1.out]; rfl)
                clear h8 hs2 ht1 hf1 f2
                generalize w7.setCell ⟨lo, pz, none⟩ (.int .i64 ((zn : Int) + 1)) = w8 at *
                have Hbl8 := Hb8
                obtain ⟨z, hz9, Hz⟩ : ∃ z : Nat, z ≤ 625 ∧ Hid (numI (addL (goV m k).1 (((initEnvL m).take (nk + 1)).map startV)) (startV (pz : Int)) = (z : Int)) := ⟨zn, hsl, Hz⟩
              all_goals
                have hmem : (startV (pz : Int)) ∈ (addL (goV m k).1 (((initEnvL m).take (nk + 1)).map startV)) := by rw [Hsl.out]; exact addV_mem.2 (.inr rfl)
                have hz8 := Hbl8.out.size
                have ht8 := (its_1 Hsep8.out).cell (i := pz) hpn
                unfold tabS at ht8
                rw [tab_in hmem, Hz.out] at ht8
                have Hnr := hide (Hsep8.out.head)
                have Hnr2 : Hid (w8.ownsRow lo 3 1 (.slice nA2 nk nc2) nk (ints (nextJ (goV m k).1 startV (initEnvL m) nk))) := hide Hsep8.out.head
                clear hmem Hnr
                go_wp2_with (at_builtin; refine wpList_append_lies _ rfl _ _ _ rfl lo 3 i3 _ 1 8 Tryz.underlying32 Hi0.out Hy0.out Hy1.out Hy2.out rfl (by omega) (.slice nA2 nk nc2) nk (ints (nextJ (goV m k).1 startV (initEnvL m) nk)) rfl (kept_new Hnr2.out _) ⟨w8.heap.size, 0, none⟩ 1 1 [.int .i64 (z : Int)] (by rfl) rfl (World.news_of_block (cs := #[.int .i64 (z : Int)]) (t := 3) (fr := (0, 0)) (heap_alloc_new w8 _)) (by simp [Value.oneCell']) (by omega) (by unfold maxLen; omega) (by omega) (by simp; omega) _ rfl ?_; intro gg cap w9 hown9 hgrow hat hlt9)
                have h9 := Hsep8.out.grow ((Below.refl _ _).alloc (Nat.le_refl _) (.cells #[.int .i64 (z : Int)] 3)) hgrow hat hown9
                rw [ints_snoc, ← Hz.out, ← Hsn.out] at h9
                have Hsep9 := hide h9
                have Hbl9 := hide ((Hbl8.out.alloc (by omega) (.cells #[.int .i64 (z : Int)] 3)).grown hgrow (by simp; omega) (fun b hb => (Hnr2.out.lt b hb).1))
                clear h9 hgrow hat hown9 hlt9 ht8
                go_wp2_with fail
                go_roundw
                case rel => exact ⟨nk + 1, ⟨some ⟨gg, 0, none⟩, nk + 1, cap⟩, s2, by omega, by go_num, rfl, rfl, Hs8.out, Hsep9.out, Hbl9.out⟩
                case measure => simp [intOf]; omega
            · have hltj' : ¬ ((j : Int) < (n5 : Int)) := by omega
              obtain rfl : j = n5 := by omega
              have Hl' : Hid ((addL (goV m k).1 (((initEnvL m).take j).map startV)) = (goV m (k + 1)).1) := hide (by rw [Hgo.out, Hsv.out, ← Hn5.out, List.take_length])
              have Hn' : Hid ((nextJ (goV m k).1 startV (initEnvL m) j) = (succV m (1, 0, 0)).map (numI (goV m (k + 1)).1)) := hide (by rw [Hgo.out, Hsv.out, ← Hn5.out, next_all])
              have Hsr : Hid (Sep lo wr (itOwn lo 3 1 nr (ints ((succV m (1, 0, 0)).map (numI (goV m (k + 1)).1))) :: bIts lo (lo + 1 + 1 + 1 + 1) lo (lo + 1) (lo + 1 + 1) t s1 ow nx (goV m (k + 1)).1 (((goV m k).1.take k).map ownV) vs (goV m k).2)) := hide (by have h := drop2 Hsep.out; rw [Hl'.out, Hn'.out] at h; exact h)
              have hs1' := Hs1.out
              rw [Hl'.out] at hs1'
              have hrl : ((succV m (1, 0, 0)).map (numI (goV m (k + 1)).1)).length ≤ 512 := by rw [List.length_map]; exact succ_len m _
              have HgoS : Hid ((goV m (k + 1)).2 = (goV m k).2 ++ [sortI ((succV m (1, 0, 0)).map (numI (goV m (k + 1)).1))]) := hide (by rw [Hgo.out])
              have Hle : Hid (k + 1 ≤ (goV m (k + 1)).1.length) := hide (by
                obtain ⟨rr, er⟩ := addL_pre (succV m (1, 0, 0)) (goV m k).1
                rw [Hgo.out]; simp only; rw [er, List.length_append, ← Hnl.out]; omega)
              have Hos : Hid (((goV m (k + 1)).1.take (k + 1)).map ownV = (((goV m k).1.take k).map ownV) ++ [0]) := hide (by
                obtain ⟨rr, er⟩ := addL_pre (succV m (1, 0, 0)) (goV m k).1
                rw [Hgo.out]; simp only
                have hll : k < (goV m k).1.length := by rw [← Hnl.out]; exact hlt
                rw [er, List.take_append_of_le_length (by omega), List.take_add_one, Hpk.out]
                simp [ownV])
              have Hown1 : Hid (ownV (1, 0, 0) = 0) := hide rfl
              clear Hl' Hn' Hsep Hlst Hs1 hLB
              generalize hrw : (succV m (1, 0, 0)).map (numI (goV m (k + 1)).1) = row at *
              obtain ⟨zA, zn, zc2⟩ := s1
              simp only at hs1'
              have hlen7 := go_len HT24.out (k + 1)
              have hzn : zn ≤ 625 := by omega
              have hgt : ¬ ((3000 : Int) < (zn : Int)) := by omega
              have Hs1 := hide hs1'
              obtain ⟨oA, on, oc⟩ := ow
              obtain ⟨xA, xn, xc⟩ := nx
              obtain ⟨nA2, nk, nc2⟩ := nr
              simp only at hon hnn hnr
              subst hnr
              obtain rfl : k = on := hon.symm
              obtain rfl : k = xn := hnn.symm
              have hbx := Hsr.out.all (itBox (lo + 1 + 1 + 1 + 1) #[.slice oA k oc, .slice xA k xc, .slice zA zn zc2] 38) (List.mem_of_getElem? (i := 1) rfl)
              obtain ⟨f0, f1, f2, g0, g1, g2⟩ := box3_cells hbx
              have hAl : (lo + 1 + 1 + 1 + 1) < wr.heap.size := (Array.getElem?_eq_some_iff.1 hbx).1
              have Hor : Hid (wr.ownsRow lo 3 1 (.slice oA k oc) k (ints (((goV m k).1.take k).map ownV))) := hide (Hsr.out.all (itOwn lo 3 1 ⟨oA, k, oc⟩ (ints (((goV m k).1.take k).map ownV))) (List.mem_of_getElem? (i := 6) rfl))
              have Hfar : Hid (∀ b, (SL.v ⟨oA, k, oc⟩).ownBlock = some b → b ≠ (lo + 1 + 1 + 1 + 1) ∧ lo ≤ b ∧ b < wr.heap.size) := hide (fun b hb => ⟨Hsr.out.ne 6 1 (by omega) rfl rfl (own_mem.2 hb) (by simp [itBox]), Hsr.out.lows 6 rfl (own_mem.2 hb)⟩)
              obtain ⟨i3, hi0, hy0, hy1, hy2⟩ := info3A
              have Hi0 := hide hi0; have Hy0 := hide hy0; have Hy1 := hide hy1; have Hy2 := hide hy2
              obtain ⟨i1, hi0, hy0, hy1, hy2⟩ := info32A
              have Hj0 := hide hi0; have Hk0 := hide hy0; have Hk1 := hide hy1; have Hk2 := hide hy2
              clear hi0 hy0 hy1 hy2 hbx g1 g2 f1 hs1' hlen7 hon hnn
              have k3 : ∀ o : Obj, (wr.alloc o).cell? ⟨(lo + 1 + 1 + 1 + 1), 0, none⟩ = some (.slice oA k oc) := fun o => (World.cell?_alloc_lt _ _ _ (show (lo + 1 + 1 + 1 + 1) < wr.heap.size by omega)).trans f0
              go_wp2_with (at_builtin; refine wpList_append_lies _ rfl _ _ _ rfl lo 3 i3 _ 1 8 Tryz.underlying32 Hi0.out Hy0.out Hy1.out Hy2.out rfl (by omega) (.slice oA k oc) k (ints (((goV m k).1.take k).map ownV)) rfl (kept_new Hor.out _) ⟨wr.heap.size, 0, none⟩ 1 1 [.int .i64 0] (by rfl) rfl (World.news_of_block (cs := #[.int .i64 0]) (t := 3) (fr := (0, 0)) (heap_alloc_new wr _)) (by simp [Value.oneCell']) (by omega) (by unfold maxLen; omega) (by omega) (by simp; omega) _ rfl ?_; intro gg cap w6 hown6 hgrow hat hlt6; have c6 : w6.cell? ⟨(lo + 1 + 1 + 1 + 1), 0, none⟩ = some (.slice oA k oc) := (World.grownBy.cell_far hgrow ⟨(lo + 1 + 1 + 1 + 1), 0, none⟩ (by simp; omega) (fun e => (Hfar.out _ e.symm).1 rfl)).trans (k3 _); have z6 : w6.frozen? ⟨(lo + 1 + 1 + 1 + 1), 0, none⟩ = false := (World.grownBy.frozen_far hgrow ⟨(lo + 1 + 1 + 1 + 1), 0, none⟩ (by simp; omega) (fun e => (Hfar.out _ e.symm).1 rfl)).trans ((World.frozen?_of_block (a := ⟨(lo + 1 + 1 + 1 + 1), 0, none⟩) (Below.heap_alloc wr _ _ (show (lo + 1 + 1 + 1 + 1) < wr.heap.size by omega))).trans g0))
              have h7 := ow_grow (q := 0) Hsr.out ((Below.refl _ _).alloc (Nat.le_refl _) _) hgrow hat (by rw [← ints_snoc]; exact hown6)
              have Hb7 := hide (((Hblq.out.alloc (by omega) (.cells #[.int .i64 0] 3)).grown hgrow (by simp; omega) (fun b hb => (Hfar.out b hb).2.1)).setCell (p := ⟨(lo + 1 + 1 + 1 + 1), 0, none⟩) (by show lo ≤ (lo + 1 + 1 + 1 + 1); omega) (.slice (some ⟨gg, 0, none⟩) (k + 1) cap))
              have H7 := hide h7
              clear h7 hgrow hat hown6 hlt6 c6 z6 k3 f0 f2 g0
              generalize w6.setCell ⟨(lo + 1 + 1 + 1 + 1), 0, none⟩ (.slice (some ⟨gg, 0, none⟩) (k + 1) cap) = w7 at *
              have hz7 := Hb7.out.size
              have hbx := H7.out.all (itBox (lo + 1 + 1 + 1 + 1) #[.slice (some ⟨gg, 0, none⟩) (k + 1) cap, .slice xA k xc, .slice zA zn zc2] 38) (List.mem_of_getElem? (i := 1) rfl)
              obtain ⟨_, f1, _, _, g1, _⟩ := box3_cells hbx
              have hnrl : row.length = nk := by have h := H7.out.head.1; simpa [ints] using h
              have Hcall : Hid (Calls Tryz.prog 47 #[.slice nA2 nk nc2] w7.drew (SrtPost w7.drew (insAll row))) := hide (rsorted_any w7.heap.size nk nc2 nA2 row w7.drew (Nat.le_refl _) (Gr.own_ri (show w7.ownsRow lo 3 1 (.slice nA2 nk nc2) nk (ints row) from H7.out.head)) (by omega))
              have hlo3 : ∀ w, Below lo w3 w → lo ≤ w.heap.size := fun w h => by have := h.size; omega
              have H7b : Hid (Sep lo w7 (itOwn lo 3 1 ⟨nA2, nk, nc2⟩ (ints row) :: bIts lo (lo + 1 + 1 + 1 + 1) lo (lo + 1) (lo + 1 + 1) t ⟨zA, zn, zc2⟩ ⟨some ⟨gg, 0, none⟩, k + 1, cap⟩ ⟨xA, k, xc⟩ (goV m (k + 1)).1 ((((goV m k).1.take k).map ownV) ++ [0]) vs (goV m k).2)) := H7
              clear H7 Hcall hbx f1 g1
              go_wp2_with fail
              refine build_region (r := ⟨(lo + 1 + 1 + 1 + 1), lo, (lo + 1), (lo + 1 + 1), t, lo, ⟨zA, zn, zc2⟩, ⟨some ⟨gg, 0, none⟩, k + 1, cap⟩, (goV m (k + 1)).1, (((goV m k).1.take k).map ownV) ++ [0], vs, (goV m k).2, row⟩) (nx := ⟨xA, k, xc⟩) (nr := ⟨nA2, nk, nc2⟩) (w3 := w3) (by kernel_rfl) (by kernel_rfl) (by kernel_rfl) (by kernel_rfl) ⟨_, _, _, rfl⟩ ⟨_, _, _, rfl⟩ ⟨_, _, _, rfl⟩ ⟨_, _, _, rfl⟩ ⟨_, _, _, rfl⟩ ⟨_, _, _, rfl⟩ ⟨_, _, _, rfl⟩ ⟨_, _, _, rfl⟩ ⟨_, _, _, rfl⟩ ⟨_, _, _, rfl⟩ rfl rfl rfl hlo3 (by simp only; omega) (by simp only; omega) H7b.out Hb7.out ?_
              intro u w9 sr gg2 cap2 hs9 hb9
              have Hs9 := hide hs9
              have Hb9 := hide hb9
              clear hs9 hb9
              simp only [sel_cons, sel_nil, Act.put, List.setIfInBounds_toArray, List.set_cons_zero, List.set_cons_succ]
              generalize u 197 = q197
              generalize u 198 = q198
              generalize u 199 = q199
              generalize u 200 = q200
              generalize u 201 = q201
              generalize u 202 = q202
              generalize u 203 = q203
              generalize u 204 = q204
              generalize u 205 = q205
              go_wp2_with fail
              go_roundw
              case rel => exact ⟨k + 1, ⟨zA, zn, zc2⟩, ⟨some ⟨gg, 0, none⟩, k + 1, cap⟩, ⟨some ⟨gg2, 0, none⟩, k + 1, cap2⟩, vs ++ [sr.v], by go_num, Hle.out, Hs1.out, rfl, rfl, by rw [Hos.out, HgoS.out, ← ins_all]; exact Hs9.out, Hb9.out⟩
              case measure => simp [intOf]; omega
        · simp only [startV, Prod.mk.injEq] at e
          obtain ⟨rfl, rfl, rfl⟩ := e
          have Hss : Hid (∀ p ∈ (initSysL m r), OkV (totN m) (envV p)) := hide (fun p hp => succ_ok Hok.out (by unfold succV; simp [rootV, startV, envV, sysV]; exact hp))
          have Hsv : Hid (succV m (2, 0, r) = (initSysL m r).map envV) := hide (by unfold succV; simp)
          have hsl : (initSysL m r).length ≤ 512 := by have h := succ_len m (2, 0, r); rw [Hsv.out, List.length_map] at h; exact h
          go_wp2_with fail
          refine (rinitS_any B ⟨⟨vA, vn, vc⟩, ⟨io, im, iA, il, ic⟩, ⟨jo, jm, jA, jl, jc⟩, ⟨eA, en, ec⟩, ⟨sA, sn, sc⟩, ⟨aA, an, ac⟩, ⟨nA, nn, nc⟩, ⟨pA, pn, pc⟩⟩ m r w1 (by omega) Hrm1.out).mono ?_
          rintro e w4 ⟨O5, n5, c5, rfl, hrow5, hn5, hb5⟩
          have Hsep5 := hide (its_new Hxb.out hb5 (by omega) hrow5)
          have Hbl5 := hide (Hbl1.out.trans (hb5.mono (by omega)))
          have Hn5 := hide hn5
          have hn5b : n5 ≤ 512 := by omega
          have hxh5 := Hsep5.out.all (itBox X #[.int .i64 2, .int .i64 0, .int .i64 r] 57) (List.mem_of_getElem? (i := 1) rfl)
          have y0 : w4.cell? ⟨X, 0, none⟩ = some (.int .i64 2) := by rw [Lib.cell_of_heap hxh5]; rfl
          clear hrow5 hb5 hn5 Hxb Hbl1 q0 q1 q2 q3 q4 q5 q6 q7 q8 q9 q10 q11 hxh5
          go_wp2_with fail
          clear y0
          go_loopw [13, 71] (fun nv ci wr => ∃ (j : Nat) (nr s1 : SL), j ≤ n5 ∧ ci = .int .i64 j ∧ nv = nr.v ∧ nr.n = j ∧ s1.n = (addL (goV m k).1 (((initSysL m r).take j).map envV)).length ∧ Sep lo wr (itOwn lo 3 1 nr (ints (nextJ (goV m k).1 envV (initSysL m r) j)) :: itBox X #[.int .i64 2, .int .i64 0, .int .i64 r] 57 :: itOwn lo 3 1 ⟨O5, n5, c5⟩ (ints (initSysL m r)) :: bIts lo (lo + 1 + 1 + 1 + 1) lo (lo + 1) (lo + 1 + 1) t s1 ow nx (addL (goV m k).1 (((initSysL m r).take j).map envV)) (((goV m k).1.take k).map ownV) vs (goV m k).2) ∧ Below lo w3 wr) (fun _ ci _ => n5 - (intOf ci).toNat)
          case atStart => exact ⟨0, ⟨none, 0, 0⟩, ⟨some ⟨pb, po, none⟩, n, zc⟩, Nat.zero_le _, rfl, rfl, rfl, Hnl.out, Hsep5.out, Hbl5.out⟩
          case round =>
            obtain ⟨j, nr, s1, hj, rfl, rfl, hnr, hs1, hsep, hblq⟩ := hrel
            have Hsep := hide hsep
            have Hblq := hide hblq
            have hzq := hblq.size
            have hlst := hsep.all (itOwn lo 3 1 ⟨O5, n5, c5⟩ (ints (initSysL m r))) (List.mem_of_getElem? (i := 2) rfl)
            have Hlst := hide (Gr.own_ri hlst)
            have Hs1 := hide hs1
            clear hsep hblq hlst hs1
            generalize hLB : itOwn lo 3 1 ⟨O5, n5, c5⟩ (ints (initSysL m r)) = LBI at *
            by_cases hltj : j < n5
            · have hltj' : ((j : Int) < (n5 : Int)) := by omega
              obtain ⟨lb, lof, p, eL, hlb, hpk2, cpp⟩ := Gr.RI.at_ Hlst.out hltj
              subst eL
              have hpm := List.mem_of_getElem? hpk2
              obtain ⟨hp0, hpT⟩ := initS_bd hpm
              rw [Htn.out] at hpT
              obtain ⟨pz, rfl⟩ := Int.eq_ofNat_of_zero_le hp0
              have hpn : pz < t := by omega
              have hpn0 : (0 : Int) ≤ (pz : Int) := by omega
              have hpn1 : (pz : Int) < (t : Int) := by omega
              have Hsl := hide (addj_succ (l := (goV m k).1) (f := envV) hpk2)
              have Hsn := hide (next_succ (l := (goV m k).1) (f := envV) hpk2)
              have hlj := (addj_ok (k := k) (j := j) (f := envV) HT24.out Hss.out).2
              clear hpk2 hpm hp0 hpT
              generalize hLL : (addL (goV m k).1 (((initSysL m r).take j).map envV)) = LL at *
              have hsl : s1.n ≤ 625 := by rw [Hs1.out]; omega
              obtain ⟨zA, zn, zc2⟩ := s1
              obtain ⟨nA2, nk, nc2⟩ := nr
              simp only at hnr hsl
              subst hnr
              have ht1 := (its_2 Hsep.out).cell (i := pz) hpn
              have hf1 := (its_2 Hsep.out).frozen pz
              unfold tabE at ht1
              obtain ⟨i3, hi0, hy0, hy1, hy2⟩ := info3A
              have Hi0 := hide hi0; have Hy0 := hide hy0; have Hy1 := hide hy1; have Hy2 := hide hy2
              clear hi0 hy0 hy1 hy2
              have hnj : nk ≤ 512 := by omega
              by_cases hin : (envV (pz : Int)) ∈ LL
              focus
                have hadd : addV LL (envV (pz : Int)) = LL := if_pos hin
                obtain ⟨z, hz, hzl, _⟩ := numI_get hin
                rw [tab_in hin, hz] at ht1
                have Hz : Hid (numI (addL (goV m k).1 (((initSysL m r).take (nk + 1)).map envV)) (envV (pz : Int)) = (z : Int)) := hide (by rw [Hsl.out, hadd, hz])
                have hz9 : z ≤ 625 := by omega
                have hne : ((z : Int) + 1 == 0) = false := by simp; omega
                obtain ⟨s2, hs2⟩ : ∃ s2, s2 = SL.mk zA zn zc2 := ⟨_, rfl⟩
                have Hsep8 : Hid (Sep lo wr (itOwn lo 3 1 ⟨nA2, nk, nc2⟩ (ints (nextJ (goV m k).1 envV (initSysL m r) nk)) :: itBox X #[.int .i64 2, .int .i64 0, .int .i64 r] 57 :: LBI :: bIts lo (lo + 1 + 1 + 1 + 1) lo (lo + 1) (lo + 1 + 1) t s2 ow nx (addL (goV m k).1 (((initSysL m r).take (nk + 1)).map envV)) (((goV m k).1.take k).map ownV) vs (goV m k).2)) := hide (by rw [Hsl.out, hadd, hs2]; exact Hsep.out)
                have Hs8 : Hid (s2.n = (addL (goV m k).1 (((initSysL m r).take (nk + 1)).map envV)).length) := hide (by rw [Hsl.out, hadd, hs2]; exact Hs1.out)
                have Hbl8 := Hblq
                clear hin hz hzl hadd hs2
                go_upto_region 26 with fail
                clear ht1 hf1 hne
                obtain ⟨w8, rfl⟩ : ∃ w8, w8 = wr := ⟨_, rfl⟩
              rotate_left
              focus
                have hadd : addV LL (envV (pz : Int)) = LL ++ [(envV (pz : Int))] := if_neg hin
                rw [tab_out hin] at ht1
                have Hz : Hid (numI (addL (goV m k).1 (((initSysL m r).take (nk + 1)).map envV)) (envV (pz : Int)) = (zn : Int)) := hide (by rw [Hsl.out, hadd, numI_new hin, ← Hs1.out])
                have hbx := its_box Hsep.out
                obtain ⟨f0, f1, f2, g0, g1, g2⟩ := box3_cells hbx
                have Hat := hide (its_at Hsep.out)
                have hfar : ∀ b, (SL.v ⟨zA, zn, zc2⟩).ownBlock = some b → b ≠ (lo + 1 + 1 + 1 + 1) ∧ b ≠ lo ∧ b ≠ (lo + 1) ∧ b ≠ (lo + 1 + 1) ∧ lo ≤ b ∧ b < wr.heap.size := fun b hb => its_far Hsep.out hb
                have Hfar := hide hfar
                have hAl : (lo + 1 + 1 + 1 + 1) < wr.heap.size := (Array.getElem?_eq_some_iff.1 hbx).1
                obtain ⟨i7, hi0, hy0, hy1, hy2⟩ := info57
                have Hj0 := hide hi0; have Hk0 := hide hy0; have Hk1 := hide hy1; have Hk2 := hide hy2
                have Hin := hide hin
                have Hadd := hide hadd
                clear hi0 hy0 hy1 hy2 hbx hfar hin hadd f0 f1 g0 g1
                simp only [SL.v] at f2
                have k2 : ∀ o : Obj, (wr.alloc o).cell? ⟨(lo + 1 + 1 + 1 + 1), 2, none⟩ = some (.slice zA zn zc2) := fun o => (World.cell?_alloc_lt _ _ _ (show (lo + 1 + 1 + 1 + 1) < wr.heap.size by omega)).trans f2
                go_upto_region 25 with (at_builtin; refine wpList_append_lies _ rfl _ _ _ rfl lo 57 i7 _ 3 24 Tryz.underlying36 Hj0.out Hk0.out Hk1.out Hk2.out rfl (by omega) (.slice zA zn zc2) zn (vxs LL) rfl (kept_new Hat.out _) ⟨wr.heap.size, 0, none⟩ 1 1 [.int .i64 3, .int .i64 (pz : Int), .int .i64 0] (by rfl) rfl (World.news_of_block (cs := #[.int .i64 3, .int .i64 (pz : Int), .int .i64 0]) (t := 57) (fr := (0, 0)) (heap_alloc_new wr _)) (by simp [Value.oneCell']) (by omega) (by unfold maxLen; omega) (by omega) (by simp; omega) _ rfl ?_; intro gg cap w6 hown6 hgrow hat hlt6; have c6 : w6.cell? ⟨(lo + 1 + 1 + 1 + 1), 2, none⟩ = some (.slice zA zn zc2) := (World.grownBy.cell_far hgrow ⟨(lo + 1 + 1 + 1 + 1), 2, none⟩ (by simp; omega) (fun e => (Hfar.out _ e.symm).1 rfl)).trans (k2 _); have z6 : w6.frozen? ⟨(lo + 1 + 1 + 1 + 1), 2, none⟩ = false := (World.grownBy.frozen_far hgrow ⟨(lo + 1 + 1 + 1 + 1), 2, none⟩ (by simp; omega) (fun e => (Hfar.out _ e.symm).1 rfl)).trans ((World.frozen?_of_block (a := ⟨(lo + 1 + 1 + 1 + 1), 2, none⟩) (Below.heap_alloc wr _ _ (show (lo + 1 + 1 + 1 + 1) < wr.heap.size by omega))).trans g2))
                have Hb6 := hide ((Hblq.out.alloc (by omega) (.cells #[.int .i64 3, .int .i64 (pz : Int), .int .i64 0] 57)).grown hgrow (by simp; omega) (fun b hb => (Hfar.out b hb).2.2.2.2.1))
                have h7 := at_grow (x := (envV (pz : Int))) Hsep.out ((Below.refl _ _).alloc (Nat.le_refl _) _) hgrow hat (by rw [← vxs_snoc]; exact hown6)
                have Hb7 := hide (Hb6.out.setCell (p := ⟨(lo + 1 + 1 + 1 + 1), 2, none⟩) (by show lo ≤ (lo + 1 + 1 + 1 + 1); omega) (.slice (some ⟨gg, 0, none⟩) (zn + 1) cap))
                have H7 := hide h7
                clear h7 hgrow hat hown6 hlt6 c6 z6 k2 f2 g2 ht1 hf1
                generalize w6.setCell ⟨(lo + 1 + 1 + 1 + 1), 2, none⟩ (.slice (some ⟨gg, 0, none⟩) (zn + 1) cap) = w7 at *
                obtain ⟨_, _, f2, _, _, _⟩ := box3_cells (its_box H7.out)
                simp only [SL.v] at f2
                have ht1 := (its_2 H7.out).cell (i := pz) hpn
                have hf1 := (its_2 H7.out).frozen pz
                obtain ⟨u1, hu1⟩ : ∃ u1, u1 = tabE LL pz := ⟨_, rfl⟩
                rw [← hu1] at ht1
                clear hu1
                go_upto_region 26 with fail
                have h8 := t2_set (x := (0, (pz : Int), 0)) (p := pz) H7.out rfl Hin.out
                have Hb8 := hide (Hb7.out.setCell (p := ⟨(lo + 1), pz, none⟩) (by show lo ≤ (lo + 1); omega) (.int .i64 ((zn : Int) + 1)))
                rw [← Hs1.out] at h8
                obtain ⟨s2, hs2⟩ : ∃ s2, s2 = SL.mk (some ⟨gg, 0, none⟩) (zn + 1) cap := ⟨_, rfl⟩
                have Hsep8 : Hid (Sep lo (w7.setCell ⟨(lo + 1), pz, none⟩ (.int .i64 ((zn : Int) + 1))) (itOwn lo 3 1 ⟨nA2, nk, nc2⟩ (ints (nextJ (goV m k).1 envV (initSysL m r) nk)) :: itBox X #[.int .i64 2, .int .i64 0, .int .i64 r] 57 :: LBI :: bIts lo (lo + 1 + 1 + 1 + 1) lo (lo + 1) (lo + 1 + 1) t s2 ow nx (addL (goV m k).1 (((initSysL m r).take (nk + 1)).map envV)) (((goV m k).1.take k).map ownV) vs (goV m k).2)) := hide (by rw [Hsl.out, Hadd.out, hs2]; exact h8)
                have Hs8 : Hid (s2.n = (addL (goV m k).1 (((initSysL m r).take (nk + 1)).map envV)).length) := hide (by rw [Hsl.out, Hadd.out, hs2, List.length_append, ← Hs1.out]; rfl)
                clear h8 hs2 ht1 hf1 f2
                generalize w7.setCell ⟨(lo + 1), pz, none⟩ (.int .i64 ((zn : Int) + 1)) = w8 at *
                have Hbl8 := Hb8
                obtain ⟨z, hz9, Hz⟩ : ∃ z : Nat, z ≤ 625 ∧ Hid (numI (addL (goV m k).1 (((initSysL m r).take (nk + 1)).map envV)) (envV (pz : Int)) = (z : Int)) := ⟨zn, hsl, Hz⟩
              all_goals
                have hmem : (envV (pz : Int)) ∈ (addL (goV m k).1 (((initSysL m r).take (nk + 1)).map envV)) := by rw [Hsl.out]; exact addV_mem.2 (.inr rfl)
                have hz8 := Hbl8.out.size
                have ht8 := (its_2 Hsep8.out).cell (i := pz) hpn
                unfold tabE at ht8
                rw [tab_in hmem, Hz.out] at ht8
                have Hnr := hide (Hsep8.out.head)
                have Hnr2 : Hid (w8.ownsRow lo 3 1 (.slice nA2 nk nc2) nk (ints (nextJ (goV m k).1 envV (initSysL m r) nk))) := hide Hsep8.out.head
                clear hmem Hnr
                go_wp2_with (at_builtin; refine wpList_append_lies _ rfl _ _ _ rfl lo 3 i3 _ 1 8 Tryz.underlying32 Hi0.out Hy0.out Hy1.out Hy2.out rfl (by omega) (.slice nA2 nk nc2) nk (ints (nextJ (goV m k).1 envV (initSysL m r) nk)) rfl (kept_new Hnr2.out _) ⟨w8.heap.size, 0, none⟩ 1 1 [.int .i64 (z : Int)] (by rfl) rfl (World.news_of_block (cs := #[.int .i64 (z : Int)]) (t := 3) (fr := (0, 0)) (heap_alloc_new w8 _)) (by simp [Value.oneCell']) (by omega) (by unfold maxLen; omega) (by omega) (by simp; omega) _ rfl ?_; intro gg cap w9 hown9 hgrow hat hlt9)
                have h9 := Hsep8.out.grow ((Below.refl _ _).alloc (Nat.le_refl _) (.cells #[.int .i64 (z : Int)] 3)) hgrow hat hown9
                rw [ints_snoc, ← Hz.out, ← Hsn.out] at h9
                have Hsep9 := hide h9
                have Hbl9 := hide ((Hbl8.out.alloc (by omega) (.cells #[.int .i64 (z : Int)] 3)).grown hgrow (by simp; omega) (fun b hb => (Hnr2.out.lt b hb).1))
                clear h9 hgrow hat hown9 hlt9 ht8
                go_wp2_with fail
                go_roundw
                case rel => exact ⟨nk + 1, ⟨some ⟨gg, 0, none⟩, nk + 1, cap⟩, s2, by omega, by go_num, rfl, rfl, Hs8.out, Hsep9.out, Hbl9.out⟩
                case measure => simp [intOf]; omega
            · have hltj' : ¬ ((j : Int) < (n5 : Int)) := by omega
              obtain rfl : j = n5 := by omega
              have Hl' : Hid ((addL (goV m k).1 (((initSysL m r).take j).map envV)) = (goV m (k + 1)).1) := hide (by rw [Hgo.out, Hsv.out, ← Hn5.out, List.take_length])
              have Hn' : Hid ((nextJ (goV m k).1 envV (initSysL m r) j) = (succV m (2, 0, r)).map (numI (goV m (k + 1)).1)) := hide (by rw [Hgo.out, Hsv.out, ← Hn5.out, next_all])
              have Hsr : Hid (Sep lo wr (itOwn lo 3 1 nr (ints ((succV m (2, 0, r)).map (numI (goV m (k + 1)).1))) :: bIts lo (lo + 1 + 1 + 1 + 1) lo (lo + 1) (lo + 1 + 1) t s1 ow nx (goV m (k + 1)).1 (((goV m k).1.take k).map ownV) vs (goV m k).2)) := hide (by have h := drop2 Hsep.out; rw [Hl'.out, Hn'.out] at h; exact h)
              have hs1' := Hs1.out
              rw [Hl'.out] at hs1'
              have hrl : ((succV m (2, 0, r)).map (numI (goV m (k + 1)).1)).length ≤ 512 := by rw [List.length_map]; exact succ_len m _
              have HgoS : Hid ((goV m (k + 1)).2 = (goV m k).2 ++ [sortI ((succV m (2, 0, r)).map (numI (goV m (k + 1)).1))]) := hide (by rw [Hgo.out])
              have Hle : Hid (k + 1 ≤ (goV m (k + 1)).1.length) := hide (by
                obtain ⟨rr, er⟩ := addL_pre (succV m (2, 0, r)) (goV m k).1
                rw [Hgo.out]; simp only; rw [er, List.length_append, ← Hnl.out]; omega)
              have Hos : Hid (((goV m (k + 1)).1.take (k + 1)).map ownV = (((goV m k).1.take k).map ownV) ++ [1]) := hide (by
                obtain ⟨rr, er⟩ := addL_pre (succV m (2, 0, r)) (goV m k).1
                rw [Hgo.out]; simp only
                have hll : k < (goV m k).1.length := by rw [← Hnl.out]; exact hlt
                rw [er, List.take_append_of_le_length (by omega), List.take_add_one, Hpk.out]
                simp [ownV])
              have Hown1 : Hid (ownV (2, 0, r) = 1) := hide rfl
              clear Hl' Hn' Hsep Hlst Hs1 hLB
              generalize hrw : (succV m (2, 0, r)).map (numI (goV m (k + 1)).1) = row at *
              obtain ⟨zA, zn, zc2⟩ := s1
              simp only at hs1'
              have hlen7 := go_len HT24.out (k + 1)
              have hzn : zn ≤ 625 := by omega
              have hgt : ¬ ((3000 : Int) < (zn : Int)) := by omega
              have Hs1 := hide hs1'
              obtain ⟨oA, on, oc⟩ := ow
              obtain ⟨xA, xn, xc⟩ := nx
              obtain ⟨nA2, nk, nc2⟩ := nr
              simp only at hon hnn hnr
              subst hnr
              obtain rfl : k = on := hon.symm
              obtain rfl : k = xn := hnn.symm
              have hbx := Hsr.out.all (itBox (lo + 1 + 1 + 1 + 1) #[.slice oA k oc, .slice xA k xc, .slice zA zn zc2] 38) (List.mem_of_getElem? (i := 1) rfl)
              obtain ⟨f0, f1, f2, g0, g1, g2⟩ := box3_cells hbx
              have hAl : (lo + 1 + 1 + 1 + 1) < wr.heap.size := (Array.getElem?_eq_some_iff.1 hbx).1
              have Hor : Hid (wr.ownsRow lo 3 1 (.slice oA k oc) k (ints (((goV m k).1.take k).map ownV))) := hide (Hsr.out.all (itOwn lo 3 1 ⟨oA, k, oc⟩ (ints (((goV m k).1.take k).map ownV))) (List.mem_of_getElem? (i := 6) rfl))
              have Hfar : Hid (∀ b, (SL.v ⟨oA, k, oc⟩).ownBlock = some b → b ≠ (lo + 1 + 1 + 1 + 1) ∧ lo ≤ b ∧ b < wr.heap.size) := hide (fun b hb => ⟨Hsr.out.ne 6 1 (by omega) rfl rfl (own_mem.2 hb) (by simp [itBox]), Hsr.out.lows 6 rfl (own_mem.2 hb)⟩)
              obtain ⟨i3, hi0, hy0, hy1, hy2⟩ := info3A
              have Hi0 := hide hi0; have Hy0 := hide hy0; have Hy1 := hide hy1; have Hy2 := hide hy2
              obtain ⟨i1, hi0, hy0, hy1, hy2⟩ := info32A
              have Hj0 := hide hi0; have Hk0 := hide hy0; have Hk1 := hide hy1; have Hk2 := hide hy2
              clear hi0 hy0 hy1 hy2 hbx g1 g2 f1 hs1' hlen7 hon hnn
              have k3 : ∀ o : Obj, (wr.alloc o).cell? ⟨(lo + 1 + 1 + 1 + 1), 0, none⟩ = some (.slice oA k oc) := fun o => (World.cell?_alloc_lt _ _ _ (show (lo + 1 + 1 + 1 + 1) < wr.heap.size by omega)).trans f0
              go_wp2_with (at_builtin; refine wpList_append_lies _ rfl _ _ _ rfl lo 3 i3 _ 1 8 Tryz.underlying32 Hi0.out Hy0.out Hy1.out Hy2.out rfl (by omega) (.slice oA k oc) k (ints (((goV m k).1.take k).map ownV)) rfl (kept_new Hor.out _) ⟨wr.heap.size, 0, none⟩ 1 1 [.int .i64 1] (by rfl) rfl (World.news_of_block (cs := #[.int .i64 1]) (t := 3) (fr := (0, 0)) (heap_alloc_new wr _)) (by simp [Value.oneCell']) (by omega) (by unfold maxLen; omega) (by omega) (by simp; omega) _ rfl ?_; intro gg cap w6 hown6 hgrow hat hlt6; have c6 : w6.cell? ⟨(lo + 1 + 1 + 1 + 1), 0, none⟩ = some (.slice oA k oc) := (World.grownBy.cell_far hgrow ⟨(lo + 1 + 1 + 1 + 1), 0, none⟩ (by simp; omega) (fun e => (Hfar.out _ e.symm).1 rfl)).trans (k3 _); have z6 : w6.frozen? ⟨(lo + 1 + 1 + 1 + 1), 0, none⟩ = false := (World.grownBy.frozen_far hgrow ⟨(lo + 1 + 1 + 1 + 1), 0, none⟩ (by simp; omega) (fun e => (Hfar.out _ e.symm).1 rfl)).trans ((World.frozen?_of_block (a := ⟨(lo + 1 + 1 + 1 + 1), 0, none⟩) (Below.heap_alloc wr _ _ (show (lo + 1 + 1 + 1 + 1) < wr.heap.size by omega))).trans g0))
              have h7 := ow_grow (q := 1) Hsr.out ((Below.refl _ _).alloc (Nat.le_refl _) _) hgrow hat (by rw [← ints_snoc]; exact hown6)
              have Hb7 := hide (((Hblq.out.alloc (by omega) (.cells #[.int .i64 1] 3)).grown hgrow (by simp; omega) (fun b hb => (Hfar.out b hb).2.1)).setCell (p := ⟨(lo + 1 + 1 + 1 + 1), 0, none⟩) (by show lo ≤ (lo + 1 + 1 + 1 + 1); omega) (.slice (some ⟨gg, 0, none⟩) (k + 1) cap))
              have H7 := hide h7
              clear h7 hgrow hat hown6 hlt6 c6 z6 k3 f0 f2 g0
              generalize w6.setCell ⟨(lo + 1 + 1 + 1 + 1), 0, none⟩ (.slice (some ⟨gg, 0, none⟩) (k + 1) cap) = w7 at *
              have hz7 := Hb7.out.size
              have hbx := H7.out.all (itBox (lo + 1 + 1 + 1 + 1) #[.slice (some ⟨gg, 0, none⟩) (k + 1) cap, .slice xA k xc, .slice zA zn zc2] 38) (List.mem_of_getElem? (i := 1) rfl)
              obtain ⟨_, f1, _, _, g1, _⟩ := box3_cells hbx
              have hnrl : row.length = nk := by have h := H7.out.head.1; simpa [ints] using h
              have Hcall : Hid (Calls Tryz.prog 47 #[.slice nA2 nk nc2] w7.drew (SrtPost w7.drew (insAll row))) := hide (rsorted_any w7.heap.size nk nc2 nA2 row w7.drew (Nat.le_refl _) (Gr.own_ri (show w7.ownsRow lo 3 1 (.slice nA2 nk nc2) nk (ints row) from H7.out.head)) (by omega))
              have hlo3 : ∀ w, Below lo w3 w → lo ≤ w.heap.size := fun w h => by have := h.size; omega
              have H7b : Hid (Sep lo w7 (itOwn lo 3 1 ⟨nA2, nk, nc2⟩ (ints row) :: bIts lo (lo + 1 + 1 + 1 + 1) lo (lo + 1) (lo + 1 + 1) t ⟨zA, zn, zc2⟩ ⟨some ⟨gg, 0, none⟩, k + 1, cap⟩ ⟨xA, k, xc⟩ (goV m (k + 1)).1 ((((goV m k).1.take k).map ownV) ++ [1]) vs (goV m k).2)) := H7
              clear H7 Hcall hbx f1 g1
              go_wp2_with fail
              refine build_region (r := ⟨(lo + 1 + 1 + 1 + 1), lo, (lo + 1), (lo + 1 + 1), t, lo, ⟨zA, zn, zc2⟩, ⟨some ⟨gg, 0, none⟩, k + 1, cap⟩, (goV m (k + 1)).1, (((goV m k).1.take k).map ownV) ++ [1], vs, (goV m k).2, row⟩) (nx := ⟨xA, k, xc⟩) (nr := ⟨nA2, nk, nc2⟩) (w3 := w3) (by kernel_rfl) (by kernel_rfl) (by kernel_rfl) (by kernel_rfl) ⟨_, _, _, rfl⟩ ⟨_, _, _, rfl⟩ ⟨_, _, _, rfl⟩ ⟨_, _, _, rfl⟩ ⟨_, _, _, rfl⟩ ⟨_, _, _, rfl⟩ ⟨_, _, _, rfl⟩ ⟨_, _, _, rfl⟩ ⟨_, _, _, rfl⟩ ⟨_, _, _, rfl⟩ rfl rfl rfl hlo3 (by simp only; omega) (by simp only; omega) H7b.out Hb7.out ?_
              intro u w9 sr gg2 cap2 hs9 hb9
              have Hs9 := hide hs9
              have Hb9 := hide hb9
              clear hs9 hb9
              simp only [sel_cons, sel_nil, Act.put, List.setIfInBounds_toArray, List.set_cons_zero, List.set_cons_succ]
              generalize u 197 = q197
              generalize u 198 = q198
              generalize u 199 = q199
              generalize u 200 = q200
              generalize u 201 = q201
              generalize u 202 = q202
              generalize u 203 = q203
              generalize u 204 = q204
              generalize u 205 = q205
              go_wp2_with fail
              go_roundw
              case rel => exact ⟨k + 1, ⟨zA, zn, zc2⟩, ⟨some ⟨gg, 0, none⟩, k + 1, cap⟩, ⟨some ⟨gg2, 0, none⟩, k + 1, cap2⟩, vs ++ [sr.v], by go_num, Hle.out, Hs1.out, rfl, rfl, by rw [Hos.out, HgoS.out, ← ins_all]; exact Hs9.out, Hb9.out⟩
              case measure => simp [intOf]; omega
        · simp only [envV, Prod.mk.injEq] at e
          obtain ⟨rfl, rfl, rfl⟩ := e
          obtain ⟨qn, rfl⟩ := Int.eq_ofNat_of_zero_le hs0
          rw [Htn.out] at hs1
          have hqn : qn < t := by omega
          have Hss : Hid (∀ p ∈ (envL m (qn : Int)), OkV (totN m) ((sysV (qn : Int)) p)) := hide (fun p hp => succ_ok Hok.out (by unfold succV; simp [rootV, startV, envV, sysV]; exact hp))
          have Hsv : Hid (succV m (3, (qn : Int), 0) = (envL m (qn : Int)).map (sysV (qn : Int))) := hide (by unfold succV; simp)
          have hsl : (envL m (qn : Int)).length ≤ 512 := by have h := succ_len m (3, (qn : Int), 0); rw [Hsv.out, List.length_map] at h; exact h
          go_wp2_with fail
          refine (renv_any B ⟨⟨vA, vn, vc⟩, ⟨io, im, iA, il, ic⟩, ⟨jo, jm, jA, jl, jc⟩, ⟨eA, en, ec⟩, ⟨sA, sn, sc⟩, ⟨aA, an, ac⟩, ⟨nA, nn, nc⟩, ⟨pA, pn, pc⟩⟩ m (qn : Int) w1 (by omega) Hrm1.out).mono ?_
          rintro e w4 ⟨O5, n5, c5, rfl, hrow5, hn5, hb5⟩
          have Hsep5 := hide (its_new Hxb.out hb5 (by omega) hrow5)
          have Hbl5 := hide (Hbl1.out.trans (hb5.mono (by omega)))
          have Hn5 := hide hn5
          have hn5b : n5 ≤ 512 := by omega
          have hxh5 := Hsep5.out.all (itBox X #[.int .i64 3, .int .i64 (qn : Int), .int .i64 0] 57) (List.mem_of_getElem? (i := 1) rfl)
          have y0 : w4.cell? ⟨X, 0, none⟩ = some (.int .i64 3) := by rw [Lib.cell_of_heap hxh5]; rfl
          clear hrow5 hb5 hn5 Hxb Hbl1 q0 q1 q2 q3 q4 q5 q6 q7 q8 q9 q10 q11 hxh5
          go_wp2_with fail
          clear y0
          go_loopw [13, 145] (fun nv ci wr => ∃ (j : Nat) (nr s1 : SL), j ≤ n5 ∧ ci = .int .i64 j ∧ nv = nr.v ∧ nr.n = j ∧ s1.n = (addL (goV m k).1 (((envL m (qn : Int)).take j).map (sysV (qn : Int)))).length ∧ Sep lo wr (itOwn lo 3 1 nr (ints (nextJ (goV m k).1 (sysV (qn : Int)) (envL m (qn : Int)) j)) :: itBox X #[.int .i64 3, .int .i64 (qn : Int), .int .i64 0] 57 :: itOwn lo 3 1 ⟨O5, n5, c5⟩ (ints (envL m (qn : Int))) :: bIts lo (lo + 1 + 1 + 1 + 1) lo (lo + 1) (lo + 1 + 1) t s1 ow nx (addL (goV m k).1 (((envL m (qn : Int)).take j).map (sysV (qn : Int)))) (((goV m k).1.take k).map ownV) vs (goV m k).2) ∧ Below lo w3 wr) (fun _ ci _ => n5 - (intOf ci).toNat)
          case atStart => exact ⟨0, ⟨none, 0, 0⟩, ⟨some ⟨pb, po, none⟩, n, zc⟩, Nat.zero_le _, rfl, rfl, rfl, Hnl.out, Hsep5.out, Hbl5.out⟩
          case round =>
            obtain ⟨j, nr, s1, hj, rfl, rfl, hnr, hs1, hsep, hblq⟩ := hrel
            have Hsep := hide hsep
            have Hblq := hide hblq
            have hzq := hblq.size
            have hlst := hsep.all (itOwn lo 3 1 ⟨O5, n5, c5⟩ (ints (envL m (qn : Int)))) (List.mem_of_getElem? (i := 2) rfl)
            have Hlst := hide (Gr.own_ri hlst)
            have Hs1 := hide hs1
            clear hsep hblq hlst hs1
            generalize hLB : itOwn lo 3 1 ⟨O5, n5, c5⟩ (ints (envL m (qn : Int))) = LBI at *
            by_cases hltj : j < n5
            · have hltj' : ((j : Int) < (n5 : Int)) := by omega
              obtain ⟨lb, lof, p, eL, hlb, hpk2, cpp⟩ := Gr.RI.at_ Hlst.out hltj
              subst eL
              have hpm := List.mem_of_getElem? hpk2
              obtain ⟨hp0, hpT⟩ := env_bd hpm
              rw [Htn.out] at hpT
              obtain ⟨pz, rfl⟩ := Int.eq_ofNat_of_zero_le hp0
              have hpn : pz < t := by omega
              have hpn0 : (0 : Int) ≤ (pz : Int) := by omega
              have hpn1 : (pz : Int) < (t : Int) := by omega
              obtain ⟨ix, hixe⟩ : ∃ ix : Nat, ix = qn * t + pz := ⟨_, rfl⟩
              have hix : ix < t * t := by
                have h1 := Nat.mul_le_mul_right t (show qn + 1 ≤ t by omega)
                rw [Nat.succ_mul] at h1; omega
              have hdv : ix / t = qn := by rw [hixe, Nat.mul_comm, Nat.mul_add_div (by omega), Nat.div_eq_of_lt hpn, Nat.add_zero]
              have hmd : ix % t = pz := by rw [hixe, Nat.mul_comm, Nat.mul_add_mod, Nat.mod_eq_of_lt hpn]
              have hml : (qn : Int) * (t : Int) + (pz : Int) = (ix : Int) := by rw [hixe]; push_cast; rfl
              have hixT : (ix : Int) < (t : Int) * (t : Int) := by rw [← Int.natCast_mul]; omega
              have hix0 : (0 : Int) ≤ (ix : Int) := by omega
              have hqt : (qn : Int) * (t : Int) ≤ 576 ∧ 0 ≤ (qn : Int) * (t : Int) := by
                rw [← Int.natCast_mul]
                have h1 := Nat.mul_le_mul_right t (show qn ≤ t by omega)
                omega
              have Hixe := hide hixe
              have hwm : IntKind.i64.wrap ((qn : Int) * (t : Int)) = (qn : Int) * (t : Int) := by rw [IntKind.wrap_i64]; omega
              have hwa : IntKind.i64.wrap ((qn : Int) * (t : Int) + (pz : Int)) = (ix : Int) := by rw [IntKind.wrap_i64, hml]; omega
              clear hixe
              have Hsl := hide (addj_succ (l := (goV m k).1) (f := (sysV (qn : Int))) hpk2)
              have Hsn := hide (next_succ (l := (goV m k).1) (f := (sysV (qn : Int))) hpk2)
              have hlj := (addj_ok (k := k) (j := j) (f := (sysV (qn : Int))) HT24.out Hss.out).2
              clear hpk2 hpm hp0 hpT
              generalize hLL : (addL (goV m k).1 (((envL m (qn : Int)).take j).map (sysV (qn : Int)))) = LL at *
              have hsl : s1.n ≤ 625 := by rw [Hs1.out]; omega
              obtain ⟨zA, zn, zc2⟩ := s1
              obtain ⟨nA2, nk, nc2⟩ := nr
              simp only at hnr hsl
              subst hnr
              have ht1 := (its_3 Hsep.out).cell (i := ix) hix
              have hf1 := (its_3 Hsep.out).frozen ix
              have hxb := Hsep.out.all (itBox X #[.int .i64 3, .int .i64 (qn : Int), .int .i64 0] 57) (List.mem_of_getElem? (i := 1) rfl)
              have x1 : wr.cell? ⟨X, 1, none⟩ = some (.int .i64 (qn : Int)) := by rw [Lib.cell_of_heap hxb]; rfl
              unfold tabY at ht1
              rw [hdv, hmd] at ht1
              obtain ⟨i3, hi0, hy0, hy1, hy2⟩ := info3A
              have Hi0 := hide hi0; have Hy0 := hide hy0; have Hy1 := hide hy1; have Hy2 := hide hy2
              clear hi0 hy0 hy1 hy2
              have hnj : nk ≤ 512 := by omega
              by_cases hin : ((sysV (qn : Int)) (pz : Int)) ∈ LL
              focus
                have hadd : addV LL ((sysV (qn : Int)) (pz : Int)) = LL := if_pos hin
                obtain ⟨z, hz, hzl, _⟩ := numI_get hin
                rw [tab_in hin, hz] at ht1
                have Hz : Hid (numI (addL (goV m k).1 (((envL m (qn : Int)).take (nk + 1)).map (sysV (qn : Int)))) ((sysV (qn : Int)) (pz : Int)) = (z : Int)) := hide (by rw [Hsl.out, hadd, hz])
                have hz9 : z ≤ 625 := by omega
                have hne : ((z : Int) + 1 == 0) = false := by simp; omega
                obtain ⟨s2, hs2⟩ : ∃ s2, s2 = SL.mk zA zn zc2 := ⟨_, rfl⟩
                have Hsep8 : Hid (Sep lo wr (itOwn lo 3 1 ⟨nA2, nk, nc2⟩ (ints (nextJ (goV m k).1 (sysV (qn : Int)) (envL m (qn : Int)) nk)) :: itBox X #[.int .i64 3, .int .i64 (qn : Int), .int .i64 0] 57 :: LBI :: bIts lo (lo + 1 + 1 + 1 + 1) lo (lo + 1) (lo + 1 + 1) t s2 ow nx (addL (goV m k).1 (((envL m (qn : Int)).take (nk + 1)).map (sysV (qn : Int)))) (((goV m k).1.take k).map ownV) vs (goV m k).2)) := hide (by rw [Hsl.out, hadd, hs2]; exact Hsep.out)
                have Hs8 : Hid (s2.n = (addL (goV m k).1 (((envL m (qn : Int)).take (nk + 1)).map (sysV (qn : Int)))).length) := hide (by rw [Hsl.out, hadd, hs2]; exact Hs1.out)
                have Hbl8 := Hblq
                clear hin hz hzl hadd hs2
                go_upto_region 45 with fail
                clear ht1 hf1 hne
                obtain ⟨w8, rfl⟩ : ∃ w8, w8 = wr := ⟨_, rfl⟩
              rotate_left
              focus
                have hadd : addV LL ((sysV (qn : Int)) (pz : Int)) = LL ++ [((sysV (qn : Int)) (pz : Int))] := if_neg hin
                rw [tab_out hin] at ht1
                have Hz : Hid (numI (addL (goV m k).1 (((envL m (qn : Int)).take (nk + 1)).map (sysV (qn : Int)))) ((sysV (qn : Int)) (pz : Int)) = (zn : Int)) := hide (by rw [Hsl.out, hadd, numI_new hin, ← Hs1.out])
                have hbx := its_box Hsep.out
                obtain ⟨f0, f1, f2, g0, g1, g2⟩ := box3_cells hbx
                have Hat := hide (its_at Hsep.out)
                have hfar : ∀ b, (SL.v ⟨zA, zn, zc2⟩).ownBlock = some b → b ≠ (lo + 1 + 1 + 1 + 1) ∧ b ≠ lo ∧ b ≠ (lo + 1) ∧ b ≠ (lo + 1 + 1) ∧ lo ≤ b ∧ b < wr.heap.size := fun b hb => its_far Hsep.out hb
                have Hfar := hide hfar
                have hAl : (lo + 1 + 1 + 1 + 1) < wr.heap.size := (Array.getElem?_eq_some_iff.1 hbx).1
                obtain ⟨i7, hi0, hy0, hy1, hy2⟩ := info57
                have Hj0 := hide hi0; have Hk0 := hide hy0; have Hk1 := hide hy1; have Hk2 := hide hy2
                have Hin := hide hin
                have Hadd := hide hadd
                clear hi0 hy0 hy1 hy2 hbx hfar hin hadd f0 f1 g0 g1
                simp only [SL.v] at f2
                have k2 : ∀ o : Obj, (wr.alloc o).cell? ⟨(lo + 1 + 1 + 1 + 1), 2, none⟩ = some (.slice zA zn zc2) := fun o => (World.cell?_alloc_lt _ _ _ (show (lo + 1 + 1 + 1 + 1) < wr.heap.size by omega)).trans f2
                go_upto_region 44 with (at_builtin; refine wpList_append_lies _ rfl _ _ _ rfl lo 57 i7 _ 3 24 Tryz.underlying36 Hj0.out Hk0.out Hk1.out Hk2.out rfl (by omega) (.slice zA zn zc2) zn (vxs LL) rfl (kept_new Hat.out _) ⟨wr.heap.size, 0, none⟩ 1 1 [.int .i64 4, .int .i64 (qn : Int), .int .i64 (pz : Int)] (by rfl) rfl (World.news_of_block (cs := #[.int .i64 4, .int .i64 (qn : Int), .int .i64 (pz : Int)]) (t := 57) (fr := (0, 0)) (heap_alloc_new wr _)) (by simp [Value.oneCell']) (by omega) (by unfold maxLen; omega) (by omega) (by simp; omega) _ rfl ?_; intro gg cap w6 hown6 hgrow hat hlt6; have c6 : w6.cell? ⟨(lo + 1 + 1 + 1 + 1), 2, none⟩ = some (.slice zA zn zc2) := (World.grownBy.cell_far hgrow ⟨(lo + 1 + 1 + 1 + 1), 2, none⟩ (by simp; omega) (fun e => (Hfar.out _ e.symm).1 rfl)).trans (k2 _); have z6 : w6.frozen? ⟨(lo + 1 + 1 + 1 + 1), 2, none⟩ = false := (World.grownBy.frozen_far hgrow ⟨(lo + 1 + 1 + 1 + 1), 2, none⟩ (by simp; omega) (fun e => (Hfar.out _ e.symm).1 rfl)).trans ((World.frozen?_of_block (a := ⟨(lo + 1 + 1 + 1 + 1), 2, none⟩) (Below.heap_alloc wr _ _ (show (lo + 1 + 1 + 1 + 1) < wr.heap.size by omega))).trans g2))
                have Hb6 := hide ((Hblq.out.alloc (by omega) (.cells #[.int .i64 4, .int .i64 (qn : Int), .int .i64 (pz : Int)] 57)).grown hgrow (by simp; omega) (fun b hb => (Hfar.out b hb).2.2.2.2.1))
                have h7 := at_grow (x := ((sysV (qn : Int)) (pz : Int))) Hsep.out ((Below.refl _ _).alloc (Nat.le_refl _) _) hgrow hat (by rw [← vxs_snoc]; exact hown6)
                have Hb7 := hide (Hb6.out.setCell (p := ⟨(lo + 1 + 1 + 1 + 1), 2, none⟩) (by show lo ≤ (lo + 1 + 1 + 1 + 1); omega) (.slice (some ⟨gg, 0, none⟩) (zn + 1) cap))
                have H7 := hide h7
                clear h7 hgrow hat hown6 hlt6 c6 z6 k2 f2 g2 ht1 hf1
                generalize w6.setCell ⟨(lo + 1 + 1 + 1 + 1), 2, none⟩ (.slice (some ⟨gg, 0, none⟩) (zn + 1) cap) = w7 at *
                obtain ⟨_, _, f2, _, _, _⟩ := box3_cells (its_box H7.out)
                simp only [SL.v] at f2
                have ht1 := (its_3 H7.out).cell (i := ix) hix
                have hf1 := (its_3 H7.out).frozen ix
                obtain ⟨u1, hu1⟩ : ∃ u1, u1 = tabY t LL ix := ⟨_, rfl⟩
                rw [← hu1] at ht1
                clear hu1
                go_upto_region 45 with fail
                have h8 := t3_set (x := (0, (qn : Int), (pz : Int))) (q := qn) (p := pz) H7.out rfl rfl hpn Hin.out
                rw [← Hixe.out] at h8
                have Hb8 := hide (Hb7.out.setCell (p := ⟨(lo + 1 + 1), ix, none⟩) (by show lo ≤ (lo + 1 + 1); omega) (.int .i64 ((zn : Int) + 1)))
                rw [← Hs1.out] at h8
                obtain ⟨s2, hs2⟩ : ∃ s2, s2 = SL.mk (some ⟨gg, 0, none⟩) (zn + 1) cap := ⟨_, rfl⟩
                have Hsep8 : Hid (Sep lo (w7.setCell ⟨(lo + 1 + 1), ix, none⟩ (.int .i64 ((zn : Int) + 1))) (itOwn lo 3 1 ⟨nA2, nk, nc2⟩ (ints (nextJ (goV m k).1 (sysV (qn : Int)) (envL m (qn : Int)) nk)) :: itBox X #[.int .i64 3, .int .i64 (qn : Int), .int .i64 0] 57 :: LBI :: bIts lo (lo + 1 + 1 + 1 + 1) lo (lo + 1) (lo + 1 + 1) t s2 ow nx (addL (goV m k).1 (((envL m (qn : Int)).take (nk + 1)).map (sysV (qn : Int)))) (((goV m k).1.take k).map ownV) vs (goV m k).2)) := hide (by rw [Hsl.out, Hadd.out, hs2]; exact h8)
                have Hs8 : Hid (s2.n = (addL (goV m k).1 (((envL m (qn : Int)).take (nk + 1)).map (sysV (qn : Int)))).length) := hide (by rw [Hsl.out, Hadd.out, hs2, List.length_append, ← Hs1.out]; rfl)
                clear h8 hs2 ht1 hf1 f2
                generalize w7.setCell ⟨(lo + 1 + 1), ix, none⟩ (.int .i64 ((zn : Int) + 1)) = w8 at *
                have Hbl8 := Hb8
                obtain ⟨z, hz9, Hz⟩ : ∃ z : Nat, z ≤ 625 ∧ Hid (numI (addL (goV m k).1 (((envL m (qn : Int)).take (nk + 1)).map (sysV (qn : Int)))) ((sysV (qn : Int)) (pz : Int)) = (z : Int)) := ⟨zn, hsl, Hz⟩
              all_goals
                have hmem : ((sysV (qn : Int)) (pz : Int)) ∈ (addL (goV m k).1 (((envL m (qn : Int)).take (nk + 1)).map (sysV (qn : Int)))) := by rw [Hsl.out]; exact addV_mem.2 (.inr rfl)
                have hz8 := Hbl8.out.size
                have ht8 := (its_3 Hsep8.out).cell (i := ix) hix
                unfold tabY at ht8
                rw [hdv, hmd] at ht8
                rw [tab_in hmem, Hz.out] at ht8
                have Hnr := hide (Hsep8.out.head)
                have Hnr2 : Hid (w8.ownsRow lo 3 1 (.slice nA2 nk nc2) nk (ints (nextJ (goV m k).1 (sysV (qn : Int)) (envL m (qn : Int)) nk))) := hide Hsep8.out.head
                clear hmem Hnr
                go_wp2_with (at_builtin; refine wpList_append_lies _ rfl _ _ _ rfl lo 3 i3 _ 1 8 Tryz.underlying32 Hi0.out Hy0.out Hy1.out Hy2.out rfl (by omega) (.slice nA2 nk nc2) nk (ints (nextJ (goV m k).1 (sysV (qn : Int)) (envL m (qn : Int)) nk)) rfl (kept_new Hnr2.out _) ⟨w8.heap.size, 0, none⟩ 1 1 [.int .i64 (z : Int)] (by rfl) rfl (World.news_of_block (cs := #[.int .i64 (z : Int)]) (t := 3) (fr := (0, 0)) (heap_alloc_new w8 _)) (by simp [Value.oneCell']) (by omega) (by unfold maxLen; omega) (by omega) (by simp; omega) _ rfl ?_; intro gg cap w9 hown9 hgrow hat hlt9)
                have h9 := Hsep8.out.grow ((Below.refl _ _).alloc (Nat.le_refl _) (.cells #[.int .i64 (z : Int)] 3)) hgrow hat hown9
                rw [ints_snoc, ← Hz.out, ← Hsn.out] at h9
                have Hsep9 := hide h9
                have Hbl9 := hide ((Hbl8.out.alloc (by omega) (.cells #[.int .i64 (z : Int)] 3)).grown hgrow (by simp; omega) (fun b hb => (Hnr2.out.lt b hb).1))
                clear h9 hgrow hat hown9 hlt9 ht8
                go_wp2_with fail
                go_roundw
                case rel => exact ⟨nk + 1, ⟨some ⟨gg, 0, none⟩, nk + 1, cap⟩, s2, by omega, by go_num, rfl, rfl, Hs8.out, Hsep9.out, Hbl9.out⟩
                case measure => simp [intOf]; omega
            · have hltj' : ¬ ((j : Int) < (n5 : Int)) := by omega
              obtain rfl : j = n5 := by omega
              have Hl' : Hid ((addL (goV m k).1 (((envL m (qn : Int)).take j).map (sysV (qn : Int)))) = (goV m (k + 1)).1) := hide (by rw [Hgo.out, Hsv.out, ← Hn5.out, List.take_length])
              have Hn' : Hid ((nextJ (goV m k).1 (sysV (qn : Int)) (envL m (qn : Int)) j) = (succV m (3, (qn : Int), 0)).map (numI (goV m (k + 1)).1)) := hide (by rw [Hgo.out, Hsv.out, ← Hn5.out, next_all])
              have Hsr : Hid (Sep lo wr (itOwn lo 3 1 nr (ints ((succV m (3, (qn : Int), 0)).map (numI (goV m (k + 1)).1))) :: bIts lo (lo + 1 + 1 + 1 + 1) lo (lo + 1) (lo + 1 + 1) t s1 ow nx (goV m (k + 1)).1 (((goV m k).1.take k).map ownV) vs (goV m k).2)) := hide (by have h := drop2 Hsep.out; rw [Hl'.out, Hn'.out] at h; exact h)
              have hs1' := Hs1.out
              rw [Hl'.out] at hs1'
              have hrl : ((succV m (3, (qn : Int), 0)).map (numI (goV m (k + 1)).1)).length ≤ 512 := by rw [List.length_map]; exact succ_len m _
              have HgoS : Hid ((goV m (k + 1)).2 = (goV m k).2 ++ [sortI ((succV m (3, (qn : Int), 0)).map (numI (goV m (k + 1)).1))]) := hide (by rw [Hgo.out])
              have Hle : Hid (k + 1 ≤ (goV m (k + 1)).1.length) := hide (by
                obtain ⟨rr, er⟩ := addL_pre (succV m (3, (qn : Int), 0)) (goV m k).1
                rw [Hgo.out]; simp only; rw [er, List.length_append, ← Hnl.out]; omega)
              have Hos : Hid (((goV m (k + 1)).1.take (k + 1)).map ownV = (((goV m k).1.take k).map ownV) ++ [0]) := hide (by
                obtain ⟨rr, er⟩ := addL_pre (succV m (3, (qn : Int), 0)) (goV m k).1
                rw [Hgo.out]; simp only
                have hll : k < (goV m k).1.length := by rw [← Hnl.out]; exact hlt
                rw [er, List.take_append_of_le_length (by omega), List.take_add_one, Hpk.out]
                simp [ownV])
              have Hown1 : Hid (ownV (3, (qn : Int), 0) = 0) := hide rfl
              clear Hl' Hn' Hsep Hlst Hs1 hLB
              generalize hrw : (succV m (3, (qn : Int), 0)).map (numI (goV m (k + 1)).1) = row at *
              obtain ⟨zA, zn, zc2⟩ := s1
              simp only at hs1'
              have hlen7 := go_len HT24.out (k + 1)
              have hzn : zn ≤ 625 := by omega
              have hgt : ¬ ((3000 : Int) < (zn : Int)) := by omega
              have Hs1 := hide hs1'
              obtain ⟨oA, on, oc⟩ := ow
              obtain ⟨xA, xn, xc⟩ := nx
              obtain ⟨nA2, nk, nc2⟩ := nr
              simp only at hon hnn hnr
              subst hnr
              obtain rfl : k = on := hon.symm
              obtain rfl : k = xn := hnn.symm
              have hbx := Hsr.out.all (itBox (lo + 1 + 1 + 1 + 1) #[.slice oA k oc, .slice xA k xc, .slice zA zn zc2] 38) (List.mem_of_getElem? (i := 1) rfl)
              obtain ⟨f0, f1, f2, g0, g1, g2⟩ := box3_cells hbx
              have hAl : (lo + 1 + 1 + 1 + 1) < wr.heap.size := (Array.getElem?_eq_some_iff.1 hbx).1
              have Hor : Hid (wr.ownsRow lo 3 1 (.slice oA k oc) k (ints (((goV m k).1.take k).map ownV))) := hide (Hsr.out.all (itOwn lo 3 1 ⟨oA, k, oc⟩ (ints (((goV m k).1.take k).map ownV))) (List.mem_of_getElem? (i := 6) rfl))
              have Hfar : Hid (∀ b, (SL.v ⟨oA, k, oc⟩).ownBlock = some b → b ≠ (lo + 1 + 1 + 1 + 1) ∧ lo ≤ b ∧ b < wr.heap.size) := hide (fun b hb => ⟨Hsr.out.ne 6 1 (by omega) rfl rfl (own_mem.2 hb) (by simp [itBox]), Hsr.out.lows 6 rfl (own_mem.2 hb)⟩)
              obtain ⟨i3, hi0, hy0, hy1, hy2⟩ := info3A
              have Hi0 := hide hi0; have Hy0 := hide hy0; have Hy1 := hide hy1; have Hy2 := hide hy2
              obtain ⟨i1, hi0, hy0, hy1, hy2⟩ := info32A
              have Hj0 := hide hi0; have Hk0 := hide hy0; have Hk1 := hide hy1; have Hk2 := hide hy2
              clear hi0 hy0 hy1 hy2 hbx g1 g2 f1 hs1' hlen7 hon hnn
              have k3 : ∀ o : Obj, (wr.alloc o).cell? ⟨(lo + 1 + 1 + 1 + 1), 0, none⟩ = some (.slice oA k oc) := fun o => (World.cell?_alloc_lt _ _ _ (show (lo + 1 + 1 + 1 + 1) < wr.heap.size by omega)).trans f0
              go_wp2_with (at_builtin; refine wpList_append_lies _ rfl _ _ _ rfl lo 3 i3 _ 1 8 Tryz.underlying32 Hi0.out Hy0.out Hy1.out Hy2.out rfl (by omega) (.slice oA k oc) k (ints (((goV m k).1.take k).map ownV)) rfl (kept_new Hor.out _) ⟨wr.heap.size, 0, none⟩ 1 1 [.int .i64 0] (by rfl) rfl (World.news_of_block (cs := #[.int .i64 0]) (t := 3) (fr := (0, 0)) (heap_alloc_new wr _)) (by simp [Value.oneCell']) (by omega) (by unfold maxLen; omega) (by omega) (by simp; omega) _ rfl ?_; intro gg cap w6 hown6 hgrow hat hlt6; have c6 : w6.cell? ⟨(lo + 1 + 1 + 1 + 1), 0, none⟩ = some (.slice oA k oc) := (World.grownBy.cell_far hgrow ⟨(lo + 1 + 1 + 1 + 1), 0, none⟩ (by simp; omega) (fun e => (Hfar.out _ e.symm).1 rfl)).trans (k3 _); have z6 : w6.frozen? ⟨(lo + 1 + 1 + 1 + 1), 0, none⟩ = false := (World.grownBy.frozen_far hgrow ⟨(lo + 1 + 1 + 1 + 1), 0, none⟩ (by simp; omega) (fun e => (Hfar.out _ e.symm).1 rfl)).trans ((World.frozen?_of_block (a := ⟨(lo + 1 + 1 + 1 + 1), 0, none⟩) (Below.heap_alloc wr _ _ (show (lo + 1 + 1 + 1 + 1) < wr.heap.size by omega))).trans g0))
              have h7 := ow_grow (q := 0) Hsr.out ((Below.refl _ _).alloc (Nat.le_refl _) _) hgrow hat (by rw [← ints_snoc]; exact hown6)
              have Hb7 := hide (((Hblq.out.alloc (by omega) (.cells #[.int .i64 0] 3)).grown hgrow (by simp; omega) (fun b hb => (Hfar.out b hb).2.1)).setCell (p := ⟨(lo + 1 + 1 + 1 + 1), 0, none⟩) (by show lo ≤ (lo + 1 + 1 + 1 + 1); omega) (.slice (some ⟨gg, 0, none⟩) (k + 1) cap))
              have H7 := hide h7
              clear h7 hgrow hat hown6 hlt6 c6 z6 k3 f0 f2 g0
              generalize w6.setCell ⟨(lo + 1 + 1 + 1 + 1), 0, none⟩ (.slice (some ⟨gg, 0, none⟩) (k + 1) cap) = w7 at *
              have hz7 := Hb7.out.size
              have hbx := H7.out.all (itBox (lo + 1 + 1 + 1 + 1) #[.slice (some ⟨gg, 0, none⟩) (k + 1) cap, .slice xA k xc, .slice zA zn zc2] 38) (List.mem_of_getElem? (i := 1) rfl)
              obtain ⟨_, f1, _, _, g1, _⟩ := box3_cells hbx
              have hnrl : row.length = nk := by have h := H7.out.head.1; simpa [ints] using h
              have Hcall : Hid (Calls Tryz.prog 47 #[.slice nA2 nk nc2] w7.drew (SrtPost w7.drew (insAll row))) := hide (rsorted_any w7.heap.size nk nc2 nA2 row w7.drew (Nat.le_refl _) (Gr.own_ri (show w7.ownsRow lo 3 1 (.slice nA2 nk nc2) nk (ints row) from H7.out.head)) (by omega))
              have hlo3 : ∀ w, Below lo w3 w → lo ≤ w.heap.size := fun w h => by have := h.size; omega
              have H7b : Hid (Sep lo w7 (itOwn lo 3 1 ⟨nA2, nk, nc2⟩ (ints row) :: bIts lo (lo + 1 + 1 + 1 + 1) lo (lo + 1) (lo + 1 + 1) t ⟨zA, zn, zc2⟩ ⟨some ⟨gg, 0, none⟩, k + 1, cap⟩ ⟨xA, k, xc⟩ (goV m (k + 1)).1 ((((goV m k).1.take k).map ownV) ++ [0]) vs (goV m k).2)) := H7
              clear H7 Hcall hbx f1 g1
              go_wp2_with fail
              refine build_region (r := ⟨(lo + 1 + 1 + 1 + 1), lo, (lo + 1), (lo + 1 + 1), t, lo, ⟨zA, zn, zc2⟩, ⟨some ⟨gg, 0, none⟩, k + 1, cap⟩, (goV m (k + 1)).1, (((goV m k).1.take k).map ownV) ++ [0], vs, (goV m k).2, row⟩) (nx := ⟨xA, k, xc⟩) (nr := ⟨nA2, nk, nc2⟩) (w3 := w3) (by kernel_rfl) (by kernel_rfl) (by kernel_rfl) (by kernel_rfl) ⟨_, _, _, rfl⟩ ⟨_, _, _, rfl⟩ ⟨_, _, _, rfl⟩ ⟨_, _, _, rfl⟩ ⟨_, _, _, rfl⟩ ⟨_, _, _, rfl⟩ ⟨_, _, _, rfl⟩ ⟨_, _, _, rfl⟩ ⟨_, _, _, rfl⟩ ⟨_, _, _, rfl⟩ rfl rfl rfl hlo3 (by simp only; omega) (by simp only; omega) H7b.out Hb7.out ?_
              intro u w9 sr gg2 cap2 hs9 hb9
              have Hs9 := hide hs9
              have Hb9 := hide hb9
              clear hs9 hb9
              simp only [sel_cons, sel_nil, Act.put, List.setIfInBounds_toArray, List.set_cons_zero, List.set_cons_succ]
              generalize u 197 = q197
              generalize u 198 = q198
              generalize u 199 = q199
              generalize u 200 = q200
              generalize u 201 = q201
              generalize u 202 = q202
              generalize u 203 = q203
              generalize u 204 = q204
              generalize u 205 = q205
              go_wp2_with fail
              go_roundw
              case rel => exact ⟨k + 1, ⟨zA, zn, zc2⟩, ⟨some ⟨gg, 0, none⟩, k + 1, cap⟩, ⟨some ⟨gg2, 0, none⟩, k + 1, cap2⟩, vs ++ [sr.v], by go_num, Hle.out, Hs1.out, rfl, rfl, by rw [Hos.out, HgoS.out, ← ins_all]; exact Hs9.out, Hb9.out⟩
              case measure => simp [intOf]; omega
        · simp only [sysV, Prod.mk.injEq] at e
          obtain ⟨rfl, rfl, rfl⟩ := e
          have Hss : Hid (∀ p ∈ (sysL m q r), OkV (totN m) (envV p)) := hide (fun p hp => succ_ok Hok.out (by unfold succV; simp [rootV, startV, envV, sysV]; exact hp))
          have Hsv : Hid (succV m (4, q, r) = (sysL m q r).map envV) := hide (by unfold succV; simp)
          have hsl : (sysL m q r).length ≤ 512 := by have h := succ_len m (4, q, r); rw [Hsv.out, List.length_map] at h; exact h
          go_wp2_with fail
          refine (rinitS_any B ⟨⟨vA, vn, vc⟩, ⟨io, im, iA, il, ic⟩, ⟨jo, jm, jA, jl, jc⟩, ⟨eA, en, ec⟩, ⟨sA, sn, sc⟩, ⟨aA, an, ac⟩, ⟨nA, nn, nc⟩, ⟨pA, pn, pc⟩⟩ m r w1 (by omega) Hrm1.out).mono ?_
          rintro e w1b ⟨O5, n5, c5, rfl, hrow5, hn5, hb5⟩
          have Hxb := hide (Hxb.out.below hb5)
          have Hbl1 := hide (Hbl1.out.trans (hb5.mono (by omega)))
          have Hrm1 := hide (Hrm1.out.below (hb5.mono (by omega)))
          have Hbor := hide (Hbor.out.below hb5 (by omega))
          have hz1b := hb5.size
          clear q0 q1 q2 q3 q4 q5 q6 q7 q8 q9 q10 q11 x0 x1 x2 hrow5 hn5 hb5
          obtain ⟨q0, q1, q2, q3, q4, q5, q6, q7, q8, q9, q10, q11⟩ := row12 Hbor.out
          simp only at q0 q1 q2 q3 q4 q5 q6 q7 q8 q9 q10 q11
          have hxh := Hxb.out.head
          have x0 : w1b.cell? ⟨X, 0, none⟩ = some (.int .i64 4) := by rw [Lib.cell_of_heap hxh]; rfl
          have x1 : w1b.cell? ⟨X, 1, none⟩ = some (.int .i64 q) := by rw [Lib.cell_of_heap hxh]; rfl
          have x2 : w1b.cell? ⟨X, 2, none⟩ = some (.int .i64 r) := by rw [Lib.cell_of_heap hxh]; rfl
          obtain ⟨w1, rfl⟩ : ∃ w1, w1 = w1b := ⟨_, rfl⟩
          clear hxh
          go_wp2_with fail
          refine (rsys_any B ⟨⟨vA, vn, vc⟩, ⟨io, im, iA, il, ic⟩, ⟨jo, jm, jA, jl, jc⟩, ⟨eA, en, ec⟩, ⟨sA, sn, sc⟩, ⟨aA, an, ac⟩, ⟨nA, nn, nc⟩, ⟨pA, pn, pc⟩⟩ m q r w1 (by omega) Hrm1.out).mono ?_
          rintro e w4 ⟨O5, n5, c5, rfl, hrow5, hn5, hb5⟩
          have Hsep5 := hide (its_new Hxb.out hb5 (by omega) hrow5)
          have Hbl5 := hide (Hbl1.out.trans (hb5.mono (by omega)))
          have Hn5 := hide hn5
          have hn5b : n5 ≤ 512 := by omega
          have hxh5 := Hsep5.out.all (itBox X #[.int .i64 4, .int .i64 q, .int .i64 r] 57) (List.mem_of_getElem? (i := 1) rfl)
          have y0 : w4.cell? ⟨X, 0, none⟩ = some (.int .i64 4) := by rw [Lib.cell_of_heap hxh5]; rfl
          clear hrow5 hb5 hn5 Hxb Hbl1 q0 q1 q2 q3 q4 q5 q6 q7 q8 q9 q10 q11 hxh5
          go_wp2_with fail
          clear y0
          go_loopw [13, 71] (fun nv ci wr => ∃ (j : Nat) (nr s1 : SL), j ≤ n5 ∧ ci = .int .i64 j ∧ nv = nr.v ∧ nr.n = j ∧ s1.n = (addL (goV m k).1 (((sysL m q r).take j).map envV)).length ∧ Sep lo wr (itOwn lo 3 1 nr (ints (nextJ (goV m k).1 envV (sysL m q r) j)) :: itBox X #[.int .i64 4, .int .i64 q, .int .i64 r] 57 :: itOwn lo 3 1 ⟨O5, n5, c5⟩ (ints (sysL m q r)) :: bIts lo (lo + 1 + 1 + 1 + 1) lo (lo + 1) (lo + 1 + 1) t s1 ow nx (addL (goV m k).1 (((sysL m q r).take j).map envV)) (((goV m k).1.take k).map ownV) vs (goV m k).2) ∧ Below lo w3 wr) (fun _ ci _ => n5 - (intOf ci).toNat)
          case atStart => exact ⟨0, ⟨none, 0, 0⟩, ⟨some ⟨pb, po, none⟩, n, zc⟩, Nat.zero_le _, rfl, rfl, rfl, Hnl.out, Hsep5.out, Hbl5.out⟩
          case round =>
            obtain ⟨j, nr, s1, hj, rfl, rfl, hnr, hs1, hsep, hblq⟩ := hrel
            have Hsep := hide hsep
            have Hblq := hide hblq
            have hzq := hblq.size
            have hlst := hsep.all (itOwn lo 3 1 ⟨O5, n5, c5⟩ (ints (sysL m q r))) (List.mem_of_getElem? (i := 2) rfl)
            have Hlst := hide (Gr.own_ri hlst)
            have Hs1 := hide hs1
            clear hsep hblq hlst hs1
            generalize hLB : itOwn lo 3 1 ⟨O5, n5, c5⟩ (ints (sysL m q r)) = LBI at *
            by_cases hltj : j < n5
            · have hltj' : ((j : Int) < (n5 : Int)) := by omega
              obtain ⟨lb, lof, p, eL, hlb, hpk2, cpp⟩ := Gr.RI.at_ Hlst.out hltj
              subst eL
              have hpm := List.mem_of_getElem? hpk2
              obtain ⟨hp0, hpT⟩ := sys_bd hpm
              rw [Htn.out] at hpT
              obtain ⟨pz, rfl⟩ := Int.eq_ofNat_of_zero_le hp0
              have hpn : pz < t := by omega
              have hpn0 : (0 : Int) ≤ (pz : Int) := by omega
              have hpn1 : (pz : Int) < (t : Int) := by omega
              have Hsl := hide (addj_succ (l := (goV m k).1) (f := envV) hpk2)
              have Hsn := hide (next_succ (l := (goV m k).1) (f := envV) hpk2)
              have hlj := (addj_ok (k := k) (j := j) (f := envV) HT24.out Hss.out).2
              clear hpk2 hpm hp0 hpT
              generalize hLL : (addL (goV m k).1 (((sysL m q r).take j).map envV)) = LL at *
              have hsl : s1.n ≤ 625 := by rw [Hs1.out]; omega
              obtain ⟨zA, zn, zc2⟩ := s1
              obtain ⟨nA2, nk, nc2⟩ := nr
              simp only at hnr hsl
              subst hnr
              have ht1 := (its_2 Hsep.out).cell (i := pz) hpn
              have hf1 := (its_2 Hsep.out).frozen pz
              unfold tabE at ht1
              obtain ⟨i3, hi0, hy0, hy1, hy2⟩ := info3A
              have Hi0 := hide hi0; have Hy0 := hide hy0; have Hy1 := hide hy1; have Hy2 := hide hy2
              clear hi0 hy0 hy1 hy2
              have hnj : nk ≤ 512 := by omega
              by_cases hin : (envV (pz : Int)) ∈ LL
              focus
                have hadd : addV LL (envV (pz : Int)) = LL := if_pos hin
                obtain ⟨z, hz, hzl, _⟩ := numI_get hin
                rw [tab_in hin, hz] at ht1
                have Hz : Hid (numI (addL (goV m k).1 (((sysL m q r).take (nk + 1)).map envV)) (envV (pz : Int)) = (z : Int)) := hide (by rw [Hsl.out, hadd, hz])
                have hz9 : z ≤ 625 := by omega
                have hne : ((z : Int) + 1 == 0) = false := by simp; omega
                obtain ⟨s2, hs2⟩ : ∃ s2, s2 = SL.mk zA zn zc2 := ⟨_, rfl⟩
                have Hsep8 : Hid (Sep lo wr (itOwn lo 3 1 ⟨nA2, nk, nc2⟩ (ints (nextJ (goV m k).1 envV (sysL m q r) nk)) :: itBox X #[.int .i64 4, .int .i64 q, .int .i64 r] 57 :: LBI :: bIts lo (lo + 1 + 1 + 1 + 1) lo (lo + 1) (lo + 1 + 1) t s2 ow nx (addL (goV m k).1 (((sysL m q r).take (nk + 1)).map envV)) (((goV m k).1.take k).map ownV) vs (goV m k).2)) := hide (by rw [Hsl.out, hadd, hs2]; exact Hsep.out)
                have Hs8 : Hid (s2.n = (addL (goV m k).1 (((sysL m q r).take (nk + 1)).map envV)).length) := hide (by rw [Hsl.out, hadd, hs2]; exact Hs1.out)
                have Hbl8 := Hblq
                clear hin hz hzl hadd hs2
                go_upto_region 26 with fail
                clear ht1 hf1 hne
                obtain ⟨w8, rfl⟩ : ∃ w8, w8 = wr := ⟨_, rfl⟩
              rotate_left
              focus
                have hadd : addV LL (envV (pz : Int)) = LL ++ [(envV (pz : Int))] := if_neg hin
                rw [tab_out hin] at ht1
                have Hz : Hid (numI (addL (goV m k).1 (((sysL m q r).take (nk + 1)).map envV)) (envV (pz : Int)) = (zn : Int)) := hide (by rw [Hsl.out, hadd, numI_new hin, ← Hs1.out])
                have hbx := its_box Hsep.out
                obtain ⟨f0, f1, f2, g0, g1, g2⟩ := box3_cells hbx
                have Hat := hide (its_at Hsep.out)
                have hfar : ∀ b, (SL.v ⟨zA, zn, zc2⟩).ownBlock = some b → b ≠ (lo + 1 + 1 + 1 + 1) ∧ b ≠ lo ∧ b ≠ (lo + 1) ∧ b ≠ (lo + 1 + 1) ∧ lo ≤ b ∧ b < wr.heap.size := fun b hb => its_far Hsep.out hb
                have Hfar := hide hfar
                have hAl : (lo + 1 + 1 + 1 + 1) < wr.heap.size := (Array.getElem?_eq_some_iff.1 hbx).1
                obtain ⟨i7, hi0, hy0, hy1, hy2⟩ := info57
                have Hj0 := hide hi0; have Hk0 := hide hy0; have Hk1 := hide hy1; have Hk2 := hide hy2
                have Hin := hide hin
                have Hadd := hide hadd
                clear hi0 hy0 hy1 hy2 hbx hfar hin hadd f0 f1 g0 g1
                simp only [SL.v] at f2
                have k2 : ∀ o : Obj, (wr.alloc o).cell? ⟨(lo + 1 + 1 + 1 + 1), 2, none⟩ = some (.slice zA zn zc2) := fun o => (World.cell?_alloc_lt _ _ _ (show (lo + 1 + 1 + 1 + 1) < wr.heap.size by omega)).trans f2
                go_upto_region 25 with (at_builtin; refine wpList_append_lies _ rfl _ _ _ rfl lo 57 i7 _ 3 24 Tryz.underlying36 Hj0.out Hk0.out Hk1.out Hk2.out rfl (by omega) (.slice zA zn zc2) zn (vxs LL) rfl (kept_new Hat.out _) ⟨wr.heap.size, 0, none⟩ 1 1 [.int .i64 3, .int .i64 (pz : Int), .int .i64 0] (by rfl) rfl (World.news_of_block (cs := #[.int .i64 3, .int .i64 (pz : Int), .int .i64 0]) (t := 57) (fr := (0, 0)) (heap_alloc_new wr _)) (by simp [Value.oneCell']) (by omega) (by unfold maxLen; omega) (by omega) (by simp; omega) _ rfl ?_; intro gg cap w6 hown6 hgrow hat hlt6; have c6 : w6.cell? ⟨(lo + 1 + 1 + 1 + 1), 2, none⟩ = some (.slice zA zn zc2) := (World.grownBy.cell_far hgrow ⟨(lo + 1 + 1 + 1 + 1), 2, none⟩ (by simp; omega) (fun e => (Hfar.out _ e.symm).1 rfl)).trans (k2 _); have z6 : w6.frozen? ⟨(lo + 1 + 1 + 1 + 1), 2, none⟩ = false := (World.grownBy.frozen_far hgrow ⟨(lo + 1 + 1 + 1 + 1), 2, none⟩ (by simp; omega) (fun e => (Hfar.out _ e.symm).1 rfl)).trans ((World.frozen?_of_block (a := ⟨(lo + 1 + 1 + 1 + 1), 2, none⟩) (Below.heap_alloc wr _ _ (show (lo + 1 + 1 + 1 + 1) < wr.heap.size by omega))).trans g2))
                have Hb6 := hide ((Hblq.out.alloc (by omega) (.cells #[.int .i64 3, .int .i64 (pz : Int), .int .i64 0] 57)).grown hgrow (by simp; omega) (fun b hb => (Hfar.out b hb).2.2.2.2.1))
                have h7 := at_grow (x := (envV (pz : Int))) Hsep.out ((Below.refl _ _).alloc (Nat.le_refl _) _) hgrow hat (by rw [← vxs_snoc]; exact hown6)
                have Hb7 := hide (Hb6.out.setCell (p := ⟨(lo + 1 + 1 + 1 + 1), 2, none⟩) (by show lo ≤ (lo + 1 + 1 + 1 + 1); omega) (.slice (some ⟨gg, 0, none⟩) (zn + 1) cap))
                have H7 := hide h7
                clear h7 hgrow hat hown6 hlt6 c6 z6 k2 f2 g2 ht1 hf1
                generalize w6.setCell ⟨(lo + 1 + 1 + 1 + 1), 2, none⟩ (.slice (some ⟨gg, 0, none⟩) (zn + 1) cap) = w7 at *
                obtain ⟨_, _, f2, _, _, _⟩ := box3_cells (its_box H7.out)
                simp only [SL.v] at f2
                have ht1 := (its_2 H7.out).cell (i := pz) hpn
                have hf1 := (its_2 H7.out).frozen pz
                obtain ⟨u1, hu1⟩ : ∃ u1, u1 = tabE LL pz := ⟨_, rfl⟩
                rw [← hu1] at ht1
                clear hu1
                go_upto_region 26 with fail
                have h8 := t2_set (x := (0, (pz : Int), 0)) (p := pz) H7.out rfl Hin.out
                have Hb8 := hide (Hb7.out.setCell (p := ⟨(lo + 1), pz, none⟩) (by show lo ≤ (lo + 1); omega) (.int .i64 ((zn : Int) + 1)))
                rw [← Hs1.out] at h8
                obtain ⟨s2, hs2⟩ : ∃ s2, s2 = SL.mk (some ⟨gg, 0, none⟩) (zn + 1) cap := ⟨_, rfl⟩
                have Hsep8 : Hid (Sep lo (w7.setCell ⟨(lo + 1), pz, none⟩ (.int .i64 ((zn : Int) + 1))) (itOwn lo 3 1 ⟨nA2, nk, nc2⟩ (ints (nextJ (goV m k).1 envV (sysL m q r) nk)) :: itBox X #[.int .i64 4, .int .i64 q, .int .i64 r] 57 :: LBI :: bIts lo (lo + 1 + 1 + 1 + 1) lo (lo + 1) (lo + 1 + 1) t s2 ow nx (addL (goV m k).1 (((sysL m q r).take (nk + 1)).map envV)) (((goV m k).1.take k).map ownV) vs (goV m k).2)) := hide (by rw [Hsl.out, Hadd.out, hs2]; exact h8)
                have Hs8 : Hid (s2.n = (addL (goV m k).1 (((sysL m q r).take (nk + 1)).map envV)).length) := hide (by rw [Hsl.out, Hadd.out, hs2, List.length_append, ← Hs1.out]; rfl)
                clear h8 hs2 ht1 hf1 f2
                generalize w7.setCell ⟨(lo + 1), pz, none⟩ (.int .i64 ((zn : Int) + 1)) = w8 at *
                have Hbl8 := Hb8
                obtain ⟨z, hz9, Hz⟩ : ∃ z : Nat, z ≤ 625 ∧ Hid (numI (addL (goV m k).1 (((sysL m q r).take (nk + 1)).map envV)) (envV (pz : Int)) = (z : Int)) := ⟨zn, hsl, Hz⟩
              all_goals
                have hmem : (envV (pz : Int)) ∈ (addL (goV m k).1 (((sysL m q r).take (nk + 1)).map envV)) := by rw [Hsl.out]; exact addV_mem.2 (.inr rfl)
                have hz8 := Hbl8.out.size
                have ht8 := (its_2 Hsep8.out).cell (i := pz) hpn
                unfold tabE at ht8
                rw [tab_in hmem, Hz.out] at ht8
                have Hnr := hide (Hsep8.out.head)
                have Hnr2 : Hid (w8.ownsRow lo 3 1 (.slice nA2 nk nc2) nk (ints (nextJ (goV m k).1 envV (sysL m q r) nk))) := hide Hsep8.out.head
                clear hmem Hnr
                go_wp2_with (at_builtin; refine wpList_append_lies _ rfl _ _ _ rfl lo 3 i3 _ 1 8 Tryz.underlying32 Hi0.out Hy0.out Hy1.out Hy2.out rfl (by omega) (.slice nA2 nk nc2) nk (ints (nextJ (goV m k).1 envV (sysL m q r) nk)) rfl (kept_new Hnr2.out _) ⟨w8.heap.size, 0, none⟩ 1 1 [.int .i64 (z : Int)] (by rfl) rfl (World.news_of_block (cs := #[.int .i64 (z : Int)]) (t := 3) (fr := (0, 0)) (heap_alloc_new w8 _)) (by simp [Value.oneCell']) (by omega) (by unfold maxLen; omega) (by omega) (by simp; omega) _ rfl ?_; intro gg cap w9 hown9 hgrow hat hlt9)
                have h9 := Hsep8.out.grow ((Below.refl _ _).alloc (Nat.le_refl _) (.cells #[.int .i64 (z : Int)] 3)) hgrow hat hown9
                rw [ints_snoc, ← Hz.out, ← Hsn.out] at h9
                have Hsep9 := hide h9
                have Hbl9 := hide ((Hbl8.out.alloc (by omega) (.cells #[.int .i64 (z : Int)] 3)).grown hgrow (by simp; omega) (fun b hb => (Hnr2.out.lt b hb).1))
                clear h9 hgrow hat hown9 hlt9 ht8
                go_wp2_with fail
                go_roundw
                case rel => exact ⟨nk + 1, ⟨some ⟨gg, 0, none⟩, nk + 1, cap⟩, s2, by omega, by go_num, rfl, rfl, Hs8.out, Hsep9.out, Hbl9.out⟩
                case measure => simp [intOf]; omega
            · have hltj' : ¬ ((j : Int) < (n5 : Int)) := by omega
              obtain rfl : j = n5 := by omega
              have Hl' : Hid ((addL (goV m k).1 (((sysL m q r).take j).map envV)) = (goV m (k + 1)).1) := hide (by rw [Hgo.out, Hsv.out, ← Hn5.out, List.take_length])
              have Hn' : Hid ((nextJ (goV m k).1 envV (sysL m q r) j) = (succV m (4, q, r)).map (numI (goV m (k + 1)).1)) := hide (by rw [Hgo.out, Hsv.out, ← Hn5.out, next_all])
              have Hsr : Hid (Sep lo wr (itOwn lo 3 1 nr (ints ((succV m (4, q, r)).map (numI (goV m (k + 1)).1))) :: bIts lo (lo + 1 + 1 + 1 + 1) lo (lo + 1) (lo + 1 + 1) t s1 ow nx (goV m (k + 1)).1 (((goV m k).1.take k).map ownV) vs (goV m k).2)) := hide (by have h := drop2 Hsep.out; rw [Hl'.out, Hn'.out] at h; exact h)
              have hs1' := Hs1.out
              rw [Hl'.out] at hs1'
              have hrl : ((succV m (4, q, r)).map (numI (goV m (k + 1)).1)).length ≤ 512 := by rw [List.length_map]; exact succ_len m _
              have HgoS : Hid ((goV m (k + 1)).2 = (goV m k).2 ++ [sortI ((succV m (4, q, r)).map (numI (goV m (k + 1)).1))]) := hide (by rw [Hgo.out])
              have Hle : Hid (k + 1 ≤ (goV m (k + 1)).1.length) := hide (by
                obtain ⟨rr, er⟩ := addL_pre (succV m (4, q, r)) (goV m k).1
                rw [Hgo.out]; simp only; rw [er, List.length_append, ← Hnl.out]; omega)
              have Hos : Hid (((goV m (k + 1)).1.take (k + 1)).map ownV = (((goV m k).1.take k).map ownV) ++ [1]) := hide (by
                obtain ⟨rr, er⟩ := addL_pre (succV m (4, q, r)) (goV m k).1
                rw [Hgo.out]; simp only
                have hll : k < (goV m k).1.length := by rw [← Hnl.out]; exact hlt
                rw [er, List.take_append_of_le_length (by omega), List.take_add_one, Hpk.out]
                simp [ownV])
              have Hown1 : Hid (ownV (4, q, r) = 1) := hide rfl
              clear Hl' Hn' Hsep Hlst Hs1 hLB
              generalize hrw : (succV m (4, q, r)).map (numI (goV m (k + 1)).1) = row at *
              obtain ⟨zA, zn, zc2⟩ := s1
              simp only at hs1'
              have hlen7 := go_len HT24.out (k + 1)
              have hzn : zn ≤ 625 := by omega
              have hgt : ¬ ((3000 : Int) < (zn : Int)) := by omega
              have Hs1 := hide hs1'
              obtain ⟨oA, on, oc⟩ := ow
              obtain ⟨xA, xn, xc⟩ := nx
              obtain ⟨nA2, nk, nc2⟩ := nr
              simp only at hon hnn hnr
              subst hnr
              obtain rfl : k = on := hon.symm
              obtain rfl : k = xn := hnn.symm
              have hbx := Hsr.out.all (itBox (lo + 1 + 1 + 1 + 1) #[.slice oA k oc, .slice xA k xc, .slice zA zn zc2] 38) (List.mem_of_getElem? (i := 1) rfl)
              obtain ⟨f0, f1, f2, g0, g1, g2⟩ := box3_cells hbx
              have hAl : (lo + 1 + 1 + 1 + 1) < wr.heap.size := (Array.getElem?_eq_some_iff.1 hbx).1
              have Hor : Hid (wr.ownsRow lo 3 1 (.slice oA k oc) k (ints (((goV m k).1.take k).map ownV))) := hide (Hsr.out.all (itOwn lo 3 1 ⟨oA, k, oc⟩ (ints (((goV m k).1.take k).map ownV))) (List.mem_of_getElem? (i := 6) rfl))
              have Hfar : Hid (∀ b, (SL.v ⟨oA, k, oc⟩).ownBlock = some b → b ≠ (lo + 1 + 1 + 1 + 1) ∧ lo ≤ b ∧ b < wr.heap.size) := hide (fun b hb => ⟨Hsr.out.ne 6 1 (by omega) rfl rfl (own_mem.2 hb) (by simp [itBox]), Hsr.out.lows 6 rfl (own_mem.2 hb)⟩)
              obtain ⟨i3, hi0, hy0, hy1, hy2⟩ := info3A
              have Hi0 := hide hi0; have Hy0 := hide hy0; have Hy1 := hide hy1; have Hy2 := hide hy2
              obtain ⟨i1, hi0, hy0, hy1, hy2⟩ := info32A
              have Hj0 := hide hi0; have Hk0 := hide hy0; have Hk1 := hide hy1; have Hk2 := hide hy2
              clear hi0 hy0 hy1 hy2 hbx g1 g2 f1 hs1' hlen7 hon hnn
              have k3 : ∀ o : Obj, (wr.alloc o).cell? ⟨(lo + 1 + 1 + 1 + 1), 0, none⟩ = some (.slice oA k oc) := fun o => (World.cell?_alloc_lt _ _ _ (show (lo + 1 + 1 + 1 + 1) < wr.heap.size by omega)).trans f0
              go_wp2_with (at_builtin; refine wpList_append_lies _ rfl _ _ _ rfl lo 3 i3 _ 1 8 Tryz.underlying32 Hi0.out Hy0.out Hy1.out Hy2.out rfl (by omega) (.slice oA k oc) k (ints (((goV m k).1.take k).map ownV)) rfl (kept_new Hor.out _) ⟨wr.heap.size, 0, none⟩ 1 1 [.int .i64 1] (by rfl) rfl (World.news_of_block (cs := #[.int .i64 1]) (t := 3) (fr := (0, 0)) (heap_alloc_new wr _)) (by simp [Value.oneCell']) (by omega) (by unfold maxLen; omega) (by omega) (by simp; omega) _ rfl ?_; intro gg cap w6 hown6 hgrow hat hlt6; have c6 : w6.cell? ⟨(lo + 1 + 1 + 1 + 1), 0, none⟩ = some (.slice oA k oc) := (World.grownBy.cell_far hgrow ⟨(lo + 1 + 1 + 1 + 1), 0, none⟩ (by simp; omega) (fun e => (Hfar.out _ e.symm).1 rfl)).trans (k3 _); have z6 : w6.frozen? ⟨(lo + 1 + 1 + 1 + 1), 0, none⟩ = false := (World.grownBy.frozen_far hgrow ⟨(lo + 1 + 1 + 1 + 1), 0, none⟩ (by simp; omega) (fun e => (Hfar.out _ e.symm).1 rfl)).trans ((World.frozen?_of_block (a := ⟨(lo + 1 + 1 + 1 + 1), 0, none⟩) (Below.heap_alloc wr _ _ (show (lo + 1 + 1 + 1 + 1) < wr.heap.size by omega))).trans g0))
              have h7 := ow_grow (q := 1) Hsr.out ((Below.refl _ _).alloc (Nat.le_refl _) _) hgrow hat (by rw [← ints_snoc]; exact hown6)
              have Hb7 := hide (((Hblq.out.alloc (by omega) (.cells #[.int .i64 1] 3)).grown hgrow (by simp; omega) (fun b hb => (Hfar.out b hb).2.1)).setCell (p := ⟨(lo + 1 + 1 + 1 + 1), 0, none⟩) (by show lo ≤ (lo + 1 + 1 + 1 + 1); omega) (.slice (some ⟨gg, 0, none⟩) (k + 1) cap))
              have H7 := hide h7
              clear h7 hgrow hat hown6 hlt6 c6 z6 k3 f0 f2 g0
              generalize w6.setCell ⟨(lo + 1 + 1 + 1 + 1), 0, none⟩ (.slice (some ⟨gg, 0, none⟩) (k + 1) cap) = w7 at *
              have hz7 := Hb7.out.size
              have hbx := H7.out.all (itBox (lo + 1 + 1 + 1 + 1) #[.slice (some ⟨gg, 0, none⟩) (k + 1) cap, .slice xA k xc, .slice zA zn zc2] 38) (List.mem_of_getElem? (i := 1) rfl)
              obtain ⟨_, f1, _, _, g1, _⟩ := box3_cells hbx
              have hnrl : row.length = nk := by have h := H7.out.head.1; simpa [ints] using h
              have Hcall : Hid (Calls Tryz.prog 47 #[.slice nA2 nk nc2] w7.drew (SrtPost w7.drew (insAll row))) := hide (rsorted_any w7.heap.size nk nc2 nA2 row w7.drew (Nat.le_refl _) (Gr.own_ri (show w7.ownsRow lo 3 1 (.slice nA2 nk nc2) nk (ints row) from H7.out.head)) (by omega))
              have hlo3 : ∀ w, Below lo w3 w → lo ≤ w.heap.size := fun w h => by have := h.size; omega
              have H7b : Hid (Sep lo w7 (itOwn lo 3 1 ⟨nA2, nk, nc2⟩ (ints row) :: bIts lo (lo + 1 + 1 + 1 + 1) lo (lo + 1) (lo + 1 + 1) t ⟨zA, zn, zc2⟩ ⟨some ⟨gg, 0, none⟩, k + 1, cap⟩ ⟨xA, k, xc⟩ (goV m (k + 1)).1 ((((goV m k).1.take k).map ownV) ++ [1]) vs (goV m k).2)) := H7
              clear H7 Hcall hbx f1 g1
              go_wp2_with fail
              refine build_region (r := ⟨(lo + 1 + 1 + 1 + 1), lo, (lo + 1), (lo + 1 + 1), t, lo, ⟨zA, zn, zc2⟩, ⟨some ⟨gg, 0, none⟩, k + 1, cap⟩, (goV m (k + 1)).1, (((goV m k).1.take k).map ownV) ++ [1], vs, (goV m k).2, row⟩) (nx := ⟨xA, k, xc⟩) (nr := ⟨nA2, nk, nc2⟩) (w3 := w3) (by kernel_rfl) (by kernel_rfl) (by kernel_rfl) (by kernel_rfl) ⟨_, _, _, rfl⟩ ⟨_, _, _, rfl⟩ ⟨_, _, _, rfl⟩ ⟨_, _, _, rfl⟩ ⟨_, _, _, rfl⟩ ⟨_, _, _, rfl⟩ ⟨_, _, _, rfl⟩ ⟨_, _, _, rfl⟩ ⟨_, _, _, rfl⟩ ⟨_, _, _, rfl⟩ rfl rfl rfl hlo3 (by simp only; omega) (by simp only; omega) H7b.out Hb7.out ?_
              intro u w9 sr gg2 cap2 hs9 hb9
              have Hs9 := hide hs9
              have Hb9 := hide hb9
              clear hs9 hb9
              simp only [sel_cons, sel_nil, Act.put, List.setIfInBounds_toArray, List.set_cons_zero, List.set_cons_succ]
              generalize u 197 = q197
              generalize u 198 = q198
              generalize u 199 = q199
              generalize u 200 = q200
              generalize u 201 = q201
              generalize u 202 = q202
              generalize u 203 = q203
              generalize u 204 = q204
              generalize u 205 = q205
              go_wp2_with fail
              go_roundw
              case rel => exact ⟨k + 1, ⟨zA, zn, zc2⟩, ⟨some ⟨gg, 0, none⟩, k + 1, cap⟩, ⟨some ⟨gg2, 0, none⟩, k + 1, cap2⟩, vs ++ [sr.v], by go_num, Hle.out, Hs1.out, rfl, rfl, by rw [Hos.out, HgoS.out, ← ins_all]; exact Hs9.out, Hb9.out⟩
              case measure => simp [intOf]; omega
      · have hlt' : ¬ ((k : Int) < (n : Int)) := by omega
        obtain rfl : k = n := by omega
        have Hall := hide (go_all hT Hnl.out.symm)
        obtain ⟨oA, on, oc⟩ := ow
        obtain ⟨xA, xn, xc⟩ := nx
        simp only at hon hnn
        subst hon
        obtain rfl : xn = on := by omega
        have Hor : Hid (wr.ownsRow lo 3 1 (.slice oA xn oc) xn (ints (((goV m xn).1.take xn).map ownV))) := hide (Hsep.out.all (itOwn lo 3 1 ⟨oA, xn, oc⟩ (ints (((goV m xn).1.take xn).map ownV))) (List.mem_of_getElem? (i := 5) rfl))
        have Hnr : Hid (wr.ownsRow lo 32 1 (.slice xA xn xc) xn vs) := hide (Hsep.out.all (itOwn lo 32 1 ⟨xA, xn, xc⟩ vs) (List.mem_of_getElem? (i := 6) rfl))
        have Hrs : Hid (vs.length = (goV m xn).2.length ∧ ∀ (j : Nat) v l, vs[j]? = some v → (goV m xn).2[j]? = some l → IsRow wr lo v l) := hide (Hsep.out.all (itRows lo vs (goV m xn).2) (List.mem_of_getElem? (i := 7) rfl))
        have Hatr : Hid (wr.ownsRow lo 57 3 (.slice zA xn zc) xn (vxs (goV m xn).1)) := hide (Hsep.out.all (itOwn lo 57 3 ⟨zA, xn, zc⟩ (vxs (goV m xn).1)) (List.mem_of_getElem? (i := 1) rfl))
        have hrbr : wr.heap[w.heap.size + 1]? = some (.cells #[.slice none 0 0, .slice none 0 0, .slice none 0 0] 38 (0, 0)) := (Hbl.out.block _ (by omega)).trans Hrb3.out
        have Hrbr := hide hrbr
        obtain ⟨c0, c1, c2, e0, e1, e2⟩ := box3_cells hrbr
        clear hrbr Hsep
        go_wp2_with fail
        obtain ⟨s0, s1, s2, _⟩ := box3_cells (box3_at Hrbr.out (.slice oA xn oc) (.slice xA xn xc) (.slice zA xn zc))
        refine bodyPost_ret (v := .tuple #[.agg #[.slice oA xn oc, .slice xA xn xc, .slice zA xn zc], .int .i64 0]) (by simp [results, Tryz.results12, go_sem, s0, s1, s2]) rfl ?_
        obtain ⟨e3, e4, e5⟩ := Hag.out
        have hwb := set3_below (g := w.heap.size + 1) ((Hb3.out.trans (Hbl.out.mono (by omega)))) (by omega) (.slice oA xn oc) (.slice xA xn xc) (.slice zA xn zc)
        have keep : ∀ z, lo ≤ z → (((wr.setCell ⟨w.heap.size + 1, 0, none⟩ (.slice oA xn oc)).setCell ⟨w.heap.size + 1, 1, none⟩ (.slice xA xn xc)).setCell ⟨w.heap.size + 1, 2, none⟩ (.slice zA xn zc)).heap[z]? = wr.heap[z]? := fun z hz => by
          rw [Below.heap_setCell _ _ _ _ (by show z ≠ w.heap.size + 1; omega), Below.heap_setCell _ _ _ _ (by show z ≠ w.heap.size + 1; omega), Below.heap_setCell _ _ _ _ (by show z ≠ w.heap.size + 1; omega)]
        have ha1 : (goV m xn).1 = atL m := by rw [Hall.out]
        have ha2 : (goV m xn).2 = nextL m := by rw [Hall.out]
        have ho : ((goV m xn).1.take xn).map ownV = (atL m).map ownV := by rw [ha1, List.take_of_length_le (by rw [← ha1, ← Hnl.out]; exact Nat.le_refl _)]
        have hor := Hor.out
        rw [ho] at hor
        have hrs := Hrs.out
        rw [ha2] at hrs
        have hatr := Hatr.out
        rw [ha1] at hatr
        refine ⟨⟨oA, xn, oc⟩, ⟨xA, xn, xc⟩, ⟨zA, xn, zc⟩, by rw [He.out]; rfl, ⟨?_, ?_⟩, ?_, hwb⟩
        · show Gr.RI _ _ _ (arOwn m)
          rw [e3]
          exact Gr.own_ri (own_keep hor (fun z hz => keep z (hor.lt z hz).1))
        · show Gr.RR _ _ _ (arNxt m)
          rw [e4]
          refine rr_of (H := []) (own_keep Hnr.out (fun z hz => keep z (Hnr.out.lt z hz).1)) ⟨hrs.1, fun j v l hv hl => ?_⟩
          obtain ⟨O, n2, c3, e6, h2⟩ := hrs.2 j v l hv hl
          exact ⟨O, n2, c3, e6, own_keep h2 (fun z hz => keep z (h2.lt z hz).1), fun z _ => by simp⟩
        · rw [e5]
          exact vx_rows (own_keep hatr (fun z hz => keep z (hatr.lt z hz).1))
end Go.Proofs.YtbppdalfcldodaaGreat
