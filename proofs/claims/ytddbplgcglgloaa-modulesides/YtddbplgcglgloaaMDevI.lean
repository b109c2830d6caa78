/- The walk of the program's Same. -/
import Derived.Test.YtddbplgcglgloaaMDevH
namespace Go.Proofs.Ytddbplgcglgloaa
open Go.RowKit Ex
open Go.Sort (grow)
set_option linter.unusedSimpArgs false
set_option linter.unusedVariables false

set_option maxRecDepth 100000 in
set_option maxHeartbeats 4000000 in
theorem dsame_any (B : Nat) (x y : M8) (m k : MT) (w : World) (hB : B ≤ w.heap.size) (hr : RM w B x m) (hr2 : RM w B y k) :
    Calls Try.prog 11 #[.agg x.cells, .agg y.cells] w fun e w' => e = .returned (.bool (modS m k)) ∧ Below w.heap.size w w' := by
  obtain ⟨hx, hy, hbn, hzn⟩ := two_blk w x.cells y.cells 28
  have Hrm := hide (hr.below (hbn.mono (by omega)))
  have Hrn := hide (hr2.below (hbn.mono (by omega)))
  have Hbx : Hid (BoxM ((w.alloc (.cells x.cells 28)).alloc (.cells y.cells 28)) w.heap.size x) := hide (fun i v hv => blk_cell hx i hv)
  have Hby : Hid (BoxM ((w.alloc (.cells x.cells 28)).alloc (.cells y.cells 28)) (w.heap.size + 1) y) := hide (fun i v hv => blk_cell hy i hv)
  have Hb := hide hbn
  have Hs : Hid (modS m k = (varsS m.vars k.vars && sameE m.ie k.ie && sameE m.is k.is && cmdsS m.env k.env && cmdsS m.sys k.sys && rowS m.asm k.asm && rowS m.ens k.ens && rowS m.prio k.prio)) := hide rfl
  obtain ⟨⟨vA1, vn1, vc1⟩, ⟨io1, im1, iA1, il1, ic1⟩, ⟨jo1, jm1, jA1, jl1, jc1⟩, ⟨eA1, en1, ec1⟩, ⟨sA1, sn1, sc1⟩, ⟨aA1, an1, ac1⟩, ⟨nA1, nn1, nc1⟩, ⟨pA1, pn1, pc1⟩⟩ := x
  obtain ⟨⟨vA2, vn2, vc2⟩, ⟨io2, im2, iA2, il2, ic2⟩, ⟨jo2, jm2, jA2, jl2, jc2⟩, ⟨eA2, en2, ec2⟩, ⟨sA2, sn2, sc2⟩, ⟨aA2, an2, ac2⟩, ⟨nA2, nn2, nc2⟩, ⟨pA2, pn2, pc2⟩⟩ := y
  clear hr hr2 hx hy hbn
  simp only [M8.cells, SL.v] at *
  obtain ⟨m0, _⟩ := Hbx.out.all
  obtain ⟨n0, _⟩ := Hby.out.all
  simp only at m0 n0
  go_enter Try.func11, Try.ntmps11
  go_wp2_with fail
  clear m0 n0
  generalize (w.alloc (.cells #[.slice vA1 vn1 vc1, .int .i64 io1, .int .i64 im1, .slice iA1 il1 ic1, .int .i64 jo1, .int .i64 jm1, .slice jA1 jl1 jc1, .slice eA1 en1 ec1, .slice sA1 sn1 sc1, .slice aA1 an1 ac1, .slice nA1 nn1 nc1, .slice pA1 pn1 pc1] 28)).alloc (.cells #[.slice vA2 vn2 vc2, .int .i64 io2, .int .i64 im2, .slice iA2 il2 ic2, .int .i64 jo2, .int .i64 jm2, .slice jA2 jl2 jc2, .slice eA2 en2 ec2, .slice sA2 sn2 sc2, .slice aA2 an2 ac2, .slice nA2 nn2 nc2, .slice pA2 pn2 pc2] 28) = W0 at *
  refine (eqvars_any B vA1 vn1 vc1 m.vars vA2 vn2 vc2 k.vars W0 Hrm.out.1.1 Hrn.out.1.1 Hrm.out.2.1 Hrn.out.2.1).mono ?_
  rintro e W1 ⟨rfl, hb⟩
  have hz1 := hb.size
  have Hb2 := hide (Hb.out.trans (hb.mono (by have := Hb.out.size; omega)))
  clear Hb
  have Hb := Hb2
  clear Hb2
  have Hrm2 := hide (Hrm.out.below (hb.mono (by omega)))
  clear Hrm
  have Hrm := Hrm2
  clear Hrm2
  have Hrn2 := hide (Hrn.out.below (hb.mono (by omega)))
  clear Hrn
  have Hrn := Hrn2
  clear Hrn2
  have Hbx2 := hide (Hbx.out.below hb (by omega))
  clear Hbx
  have Hbx := Hbx2
  clear Hbx2
  have Hby2 := hide (Hby.out.below hb (by omega))
  clear Hby
  have Hby := Hby2
  clear Hby2
  clear hb
  generalize varsS m.vars k.vars = r0 at *
  cases r0
  · have Hf : Hid (modS m k = false) := hide (by rw [Hs.out]; simp)
    go_wp2_with fail
    go_ret
    exact ⟨ret_bool Hf.out.symm, Hb.out⟩
  · skip
    obtain ⟨_, m1, m2, m3, _, _, _, _, _, _, _, _⟩ := Hbx.out.all
    obtain ⟨_, n1, n2, n3, _, _, _, _, _, _, _, _⟩ := Hby.out.all
    simp only at m1 n1 m2 n2 m3 n3
    go_wp2_with fail
    clear m1 n1 m2 n2 m3 n3
    obtain ⟨d1, hd1⟩ := Hrm.out.2.2.1
    obtain ⟨d2, hd2⟩ := Hrn.out.2.2.1
    have Hd1 := hide hd1
    have Hd2 := hide hd2
    clear hd1 hd2
    refine (same_any B d1 io1 im1 iA1 il1 ic1 m.ie d2 io2 im2 iA2 il2 ic2 k.ie W1 (by omega) Hd1.out Hd2.out).mono ?_
    rintro e W2 ⟨rfl, hb⟩
    have hz2 := hb.size
    clear Hd1 Hd2
    have Hb2 := hide (Hb.out.trans (hb.mono (by have := Hb.out.size; omega)))
    clear Hb
    have Hb := Hb2
    clear Hb2
    have Hrm2 := hide (Hrm.out.below (hb.mono (by omega)))
    clear Hrm
    have Hrm := Hrm2
    clear Hrm2
    have Hrn2 := hide (Hrn.out.below (hb.mono (by omega)))
    clear Hrn
    have Hrn := Hrn2
    clear Hrn2
    have Hbx2 := hide (Hbx.out.below hb (by omega))
    clear Hbx
    have Hbx := Hbx2
    clear Hbx2
    have Hby2 := hide (Hby.out.below hb (by omega))
    clear Hby
    have Hby := Hby2
    clear Hby2
    clear hb
    generalize sameE m.ie k.ie = r1 at *
    cases r1
    · have Hf : Hid (modS m k = false) := hide (by rw [Hs.out]; simp)
      go_wp2_with fail
      go_ret
      exact ⟨ret_bool Hf.out.symm, Hb.out⟩
    · skip
      obtain ⟨_, _, _, _, m4, m5, m6, _, _, _, _, _⟩ := Hbx.out.all
      obtain ⟨_, _, _, _, n4, n5, n6, _, _, _, _, _⟩ := Hby.out.all
      simp only at m4 n4 m5 n5 m6 n6
      go_wp2_with fail
      clear m4 n4 m5 n5 m6 n6
      obtain ⟨d1, hd1⟩ := Hrm.out.2.2.2.1
      obtain ⟨d2, hd2⟩ := Hrn.out.2.2.2.1
      have Hd1 := hide hd1
      have Hd2 := hide hd2
      clear hd1 hd2
      refine (same_any B d1 jo1 jm1 jA1 jl1 jc1 m.is d2 jo2 jm2 jA2 jl2 jc2 k.is W2 (by omega) Hd1.out Hd2.out).mono ?_
      rintro e W3 ⟨rfl, hb⟩
      have hz3 := hb.size
      clear Hd1 Hd2
      have Hb2 := hide (Hb.out.trans (hb.mono (by have := Hb.out.size; omega)))
      clear Hb
      have Hb := Hb2
      clear Hb2
      have Hrm2 := hide (Hrm.out.below (hb.mono (by omega)))
      clear Hrm
      have Hrm := Hrm2
      clear Hrm2
      have Hrn2 := hide (Hrn.out.below (hb.mono (by omega)))
      clear Hrn
      have Hrn := Hrn2
      clear Hrn2
      have Hbx2 := hide (Hbx.out.below hb (by omega))
      clear Hbx
      have Hbx := Hbx2
      clear Hbx2
      have Hby2 := hide (Hby.out.below hb (by omega))
      clear Hby
      have Hby := Hby2
      clear Hby2
      clear hb
      generalize sameE m.is k.is = r2 at *
      cases r2
      · have Hf : Hid (modS m k = false) := hide (by rw [Hs.out]; simp)
        go_wp2_with fail
        go_ret
        exact ⟨ret_bool Hf.out.symm, Hb.out⟩
      · skip
        obtain ⟨_, _, _, _, _, _, _, m7, _, _, _, _⟩ := Hbx.out.all
        obtain ⟨_, _, _, _, _, _, _, n7, _, _, _, _⟩ := Hby.out.all
        simp only at m7 n7
        go_wp2_with fail
        clear m7 n7
        refine (eqcmds_any B eA1 en1 ec1 m.env eA2 en2 ec2 k.env W3 (by omega) Hrm.out.2.2.2.2.1 Hrn.out.2.2.2.2.1).mono ?_
        rintro e W4 ⟨rfl, hb⟩
        have hz4 := hb.size
        have Hb2 := hide (Hb.out.trans (hb.mono (by have := Hb.out.size; omega)))
        clear Hb
        have Hb := Hb2
        clear Hb2
        have Hrm2 := hide (Hrm.out.below (hb.mono (by omega)))
        clear Hrm
        have Hrm := Hrm2
        clear Hrm2
        have Hrn2 := hide (Hrn.out.below (hb.mono (by omega)))
        clear Hrn
        have Hrn := Hrn2
        clear Hrn2
        have Hbx2 := hide (Hbx.out.below hb (by omega))
        clear Hbx
        have Hbx := Hbx2
        clear Hbx2
        have Hby2 := hide (Hby.out.below hb (by omega))
        clear Hby
        have Hby := Hby2
        clear Hby2
        clear hb
        generalize cmdsS m.env k.env = r3 at *
        cases r3
        · have Hf : Hid (modS m k = false) := hide (by rw [Hs.out]; simp)
          go_wp2_with fail
          go_ret
          exact ⟨ret_bool Hf.out.symm, Hb.out⟩
        · skip
          obtain ⟨_, _, _, _, _, _, _, _, m8, _, _, _⟩ := Hbx.out.all
          obtain ⟨_, _, _, _, _, _, _, _, n8, _, _, _⟩ := Hby.out.all
          simp only at m8 n8
          go_wp2_with fail
          clear m8 n8
          refine (eqcmds_any B sA1 sn1 sc1 m.sys sA2 sn2 sc2 k.sys W4 (by omega) Hrm.out.2.2.2.2.2.1 Hrn.out.2.2.2.2.2.1).mono ?_
          rintro e W5 ⟨rfl, hb⟩
          have hz5 := hb.size
          have Hb2 := hide (Hb.out.trans (hb.mono (by have := Hb.out.size; omega)))
          clear Hb
          have Hb := Hb2
          clear Hb2
          have Hrm2 := hide (Hrm.out.below (hb.mono (by omega)))
          clear Hrm
          have Hrm := Hrm2
          clear Hrm2
          have Hrn2 := hide (Hrn.out.below (hb.mono (by omega)))
          clear Hrn
          have Hrn := Hrn2
          clear Hrn2
          have Hbx2 := hide (Hbx.out.below hb (by omega))
          clear Hbx
          have Hbx := Hbx2
          clear Hbx2
          have Hby2 := hide (Hby.out.below hb (by omega))
          clear Hby
          have Hby := Hby2
          clear Hby2
          clear hb
          generalize cmdsS m.sys k.sys = r4 at *
          cases r4
          · have Hf : Hid (modS m k = false) := hide (by rw [Hs.out]; simp)
            go_wp2_with fail
            go_ret
            exact ⟨ret_bool Hf.out.symm, Hb.out⟩
          · skip
            obtain ⟨_, _, _, _, _, _, _, _, _, m9, _, _⟩ := Hbx.out.all
            obtain ⟨_, _, _, _, _, _, _, _, _, n9, _, _⟩ := Hby.out.all
            simp only at m9 n9
            go_wp2_with fail
            clear m9 n9
            refine (eqexprs_any B aA1 an1 ac1 m.asm aA2 an2 ac2 k.asm W5 (by omega) Hrm.out.2.2.2.2.2.2.1 Hrn.out.2.2.2.2.2.2.1).mono ?_
            rintro e W6 ⟨rfl, hb⟩
            have hz6 := hb.size
            have Hb2 := hide (Hb.out.trans (hb.mono (by have := Hb.out.size; omega)))
            clear Hb
            have Hb := Hb2
            clear Hb2
            have Hrm2 := hide (Hrm.out.below (hb.mono (by omega)))
            clear Hrm
            have Hrm := Hrm2
            clear Hrm2
            have Hrn2 := hide (Hrn.out.below (hb.mono (by omega)))
            clear Hrn
            have Hrn := Hrn2
            clear Hrn2
            have Hbx2 := hide (Hbx.out.below hb (by omega))
            clear Hbx
            have Hbx := Hbx2
            clear Hbx2
            have Hby2 := hide (Hby.out.below hb (by omega))
            clear Hby
            have Hby := Hby2
            clear Hby2
            clear hb
            generalize rowS m.asm k.asm = r5 at *
            cases r5
            · have Hf : Hid (modS m k = false) := hide (by rw [Hs.out]; simp)
              go_wp2_with fail
              go_ret
              exact ⟨ret_bool Hf.out.symm, Hb.out⟩
            · skip
              obtain ⟨_, _, _, _, _, _, _, _, _, _, m10, _⟩ := Hbx.out.all
              obtain ⟨_, _, _, _, _, _, _, _, _, _, n10, _⟩ := Hby.out.all
              simp only at m10 n10
              go_wp2_with fail
              clear m10 n10
              refine (eqexprs_any B nA1 nn1 nc1 m.ens nA2 nn2 nc2 k.ens W6 (by omega) Hrm.out.2.2.2.2.2.2.2.1 Hrn.out.2.2.2.2.2.2.2.1).mono ?_
              rintro e W7 ⟨rfl, hb⟩
              have hz7 := hb.size
              have Hb2 := hide (Hb.out.trans (hb.mono (by have := Hb.out.size; omega)))
              clear Hb
              have Hb := Hb2
              clear Hb2
              have Hrm2 := hide (Hrm.out.below (hb.mono (by omega)))
              clear Hrm
              have Hrm := Hrm2
              clear Hrm2
              have Hrn2 := hide (Hrn.out.below (hb.mono (by omega)))
              clear Hrn
              have Hrn := Hrn2
              clear Hrn2
              have Hbx2 := hide (Hbx.out.below hb (by omega))
              clear Hbx
              have Hbx := Hbx2
              clear Hbx2
              have Hby2 := hide (Hby.out.below hb (by omega))
              clear Hby
              have Hby := Hby2
              clear Hby2
              clear hb
              generalize rowS m.ens k.ens = r6 at *
              cases r6
              · have Hf : Hid (modS m k = false) := hide (by rw [Hs.out]; simp)
                go_wp2_with fail
                go_ret
                exact ⟨ret_bool Hf.out.symm, Hb.out⟩
              · skip
                obtain ⟨_, _, _, _, _, _, _, _, _, _, _, m11⟩ := Hbx.out.all
                obtain ⟨_, _, _, _, _, _, _, _, _, _, _, n11⟩ := Hby.out.all
                simp only at m11 n11
                go_wp2_with fail
                clear m11 n11
                refine (eqexprs_any B pA1 pn1 pc1 m.prio pA2 pn2 pc2 k.prio W7 (by omega) Hrm.out.2.2.2.2.2.2.2.2 Hrn.out.2.2.2.2.2.2.2.2).mono ?_
                rintro e W8 ⟨rfl, hb⟩
                have hz8 := hb.size
                have Hb2 := hide (Hb.out.trans (hb.mono (by have := Hb.out.size; omega)))
                clear Hb
                have Hb := Hb2
                clear Hb2
                have Hrm2 := hide (Hrm.out.below (hb.mono (by omega)))
                clear Hrm
                have Hrm := Hrm2
                clear Hrm2
                have Hrn2 := hide (Hrn.out.below (hb.mono (by omega)))
                clear Hrn
                have Hrn := Hrn2
                clear Hrn2
                have Hbx2 := hide (Hbx.out.below hb (by omega))
                clear Hbx
                have Hbx := Hbx2
                clear Hbx2
                have Hby2 := hide (Hby.out.below hb (by omega))
                clear Hby
                have Hby := Hby2
                clear Hby2
                clear hb
                generalize rowS m.prio k.prio = r7 at *
                cases r7
                · have Hf : Hid (modS m k = false) := hide (by rw [Hs.out]; simp)
                  go_wp2_with fail
                  go_ret
                  exact ⟨ret_bool Hf.out.symm, Hb.out⟩
                · have Hf : Hid (modS m k = true) := hide (by rw [Hs.out]; simp)
                  go_wp2_with fail
                  go_ret
                  exact ⟨ret_bool Hf.out.symm, Hb.out⟩
end Go.Proofs.Ytddbplgcglgloaa
