/- The walks of the program's mayCommands, Goals, mayGoals and May. -/
import Derived.Test.YtddbplgcglgloaaMDevC
namespace Go.Proofs.Ytddbplgcglgloaa
open Go.RowKit Ex
open Go.Sort (grow)
set_option linter.unusedSimpArgs false
set_option linter.unusedVariables false

theorem cmds_tab (G B : Nat) (w : World) (e s : SL) (m : MT) (h : w.heap[G]? = some (.cells #[e.v, .bool true, s.v, .bool false] 78 (0, 0))) (he : Rows CmdAt 4 w B e m.env) (hs : Rows CmdAt 4 w B s m.sys) (k : Nat) (hk : k < 2) :
    ∃ (A : Option Addr) (n c : Nat) (fl : Bool) (l : List CT), w.cell? ⟨G, k * 2, none⟩ = some (.slice A n c) ∧ w.cell? ⟨G, k * 2 + 1, none⟩ = some (.bool fl) ∧ Rows CmdAt 4 w B ⟨A, n, c⟩ l ∧ [cmdsE m.vars true m.env, cmdsE m.vars false m.sys].drop k = cmdsE m.vars fl l :: [cmdsE m.vars true m.env, cmdsE m.vars false m.sys].drop (k + 1) := by
  have c : ∀ i v, (#[e.v, .bool true, s.v, .bool false] : Array Value)[i]? = some v → w.cell? ⟨G, i, none⟩ = some v := fun i v hv => by
    rw [cell_of_row _ _ i _ 78 (0, 0) h]; exact hv
  have hk' : k = 0 ∨ k = 1 := by omega
  rcases hk' with rfl | rfl
  · exact ⟨e.A, e.n, e.c, true, m.env, c 0 _ rfl, c 1 _ rfl, he, rfl⟩
  · exact ⟨s.A, s.n, s.c, false, m.sys, c 2 _ rfl, c 3 _ rfl, hs, rfl⟩
theorem goals_tab (G B : Nat) (w : World) (a n p : SL) (m : MT) (h : w.heap[G]? = some (.cells #[a.v, n.v, p.v] 23 (0, 0))) (ha : Rows ExAt 3 w B a m.asm) (hn : Rows ExAt 3 w B n m.ens) (hp : Rows ExAt 3 w B p m.prio) (k : Nat) (hk : k < 3) :
    ∃ (A : Option Addr) (n c : Nat) (l : List T), w.cell? ⟨G, k, none⟩ = some (.slice A n c) ∧ Rows ExAt 3 w B ⟨A, n, c⟩ l ∧ [goalsE m.vars m.asm, goalsE m.vars m.ens, goalsE m.vars m.prio].drop k = goalsE m.vars l :: [goalsE m.vars m.asm, goalsE m.vars m.ens, goalsE m.vars m.prio].drop (k + 1) := by
  have c : ∀ i v, (#[a.v, n.v, p.v] : Array Value)[i]? = some v → w.cell? ⟨G, i, none⟩ = some v := fun i v hv => by
    rw [cell_of_row _ _ i _ 23 (0, 0) h]; exact hv
  have hk' : k = 0 ∨ k = 1 ∨ k = 2 := by omega
  rcases hk' with rfl | rfl | rfl
  · exact ⟨a.A, a.n, a.c, m.asm, c 0 _ rfl, ha, rfl⟩
  · exact ⟨n.A, n.n, n.c, m.ens, c 1 _ rfl, hn, rfl⟩
  · exact ⟨p.A, p.n, p.c, m.prio, c 2 _ rfl, hp, rfl⟩

set_option maxRecDepth 100000 in
set_option maxHeartbeats 4000000 in
theorem dcmds_any (B : Nat) (x : M8) (m : MT) (w : World) (hB : B ≤ w.heap.size) (hrm : RM w B x m) :
    Calls Try.prog 20 #[.agg x.cells] w fun e w' => e = .returned (.int .i64 (firstE [cmdsE m.vars true m.env, cmdsE m.vars false m.sys])) ∧ Below w.heap.size w w' := by
  have hbx := (Below.refl w.heap.size w).alloc (Nat.le_refl _) (.cells x.cells 28)
  have Hbx0 := hide (boxM_new w x)
  have Hb0 := hide hbx
  have hz0 : (w.alloc (.cells x.cells 28)).heap.size = w.heap.size + 1 := by simp
  have Hrm0 := hide (hrm.below (hbx.mono hB))
  have Ho := hide hrm.1
  obtain ⟨⟨vA, vn, vc⟩, ⟨io, im, iA, il, ic⟩, ⟨jo, jm, jA, jl, jc⟩, ⟨eA, en, ec⟩, ⟨sA, sn, sc⟩, ⟨aA, an, ac⟩, ⟨nA, nn, nc⟩, ⟨pA, pn, pc⟩⟩ := x
  clear hrm hbx
  simp only [M8.cells, SL.v] at *
  have Hbx1 := Hbx0
  obtain ⟨_, _, _, _, _, _, _, r1, r2, r3, r4, r5⟩ := Hbx1.out.all
  clear Hbx1
  simp only at r1 r2 r3 r4 r5
  have hbT := (Below.refl (w.alloc (.cells #[.slice vA vn vc, .int .i64 io, .int .i64 im, .slice iA il ic, .int .i64 jo, .int .i64 jm, .slice jA jl jc, .slice eA en ec, .slice sA sn sc, .slice aA an ac, .slice nA nn nc, .slice pA pn pc] 28)).heap.size (w.alloc (.cells #[.slice vA vn vc, .int .i64 io, .int .i64 im, .slice iA il ic, .int .i64 jo, .int .i64 jm, .slice jA jl jc, .slice eA en ec, .slice sA sn sc, .slice aA an ac, .slice nA nn nc, .slice pA pn pc] 28))).alloc (Nat.le_refl _) (.cells #[.slice eA en ec, .bool true, .slice sA sn sc, .bool false] 78)
  have Hb1 := hide (Hb0.out.trans (hbT.mono (by omega)))
  have Hrm1 := hide (Hrm0.out.below (hbT.mono (by omega)))
  have Hbx2 := hide (Hbx0.out.below hbT (by omega))
  have Htab : Hid (((w.alloc (.cells #[.slice vA vn vc, .int .i64 io, .int .i64 im, .slice iA il ic, .int .i64 jo, .int .i64 jm, .slice jA jl jc, .slice eA en ec, .slice sA sn sc, .slice aA an ac, .slice nA nn nc, .slice pA pn pc] 28)).alloc (.cells #[.slice eA en ec, .bool true, .slice sA sn sc, .bool false] 78)).heap[w.heap.size + 1]? = some (.cells #[.slice eA en ec, .bool true, .slice sA sn sc, .bool false] 78 (0, 0))) := hide (by
    have h := heap_alloc_new (w.alloc (.cells #[.slice vA vn vc, .int .i64 io, .int .i64 im, .slice iA il ic, .int .i64 jo, .int .i64 jm, .slice jA jl jc, .slice eA en ec, .slice sA sn sc, .slice aA an ac, .slice nA nn nc, .slice pA pn pc] 28)) (.cells #[.slice eA en ec, .bool true, .slice sA sn sc, .bool false] 78)
    rw [hz0] at h
    exact h)
  have hz1 : w.heap.size + 2 ≤ ((w.alloc (.cells #[.slice vA vn vc, .int .i64 io, .int .i64 im, .slice iA il ic, .int .i64 jo, .int .i64 jm, .slice jA jl jc, .slice eA en ec, .slice sA sn sc, .slice aA an ac, .slice nA nn nc, .slice pA pn pc] 28)).alloc (.cells #[.slice eA en ec, .bool true, .slice sA sn sc, .bool false] 78)).heap.size := by simp
  clear hbT Hb0 Hbx0 Hrm0
  go_enter Try.func20, Try.ntmps20
  go_wp2_with fail
  clear r1 r2 r3 r4 r5 hz0
  generalize (w.alloc (.cells #[.slice vA vn vc, .int .i64 io, .int .i64 im, .slice iA il ic, .int .i64 jo, .int .i64 jm, .slice jA jl jc, .slice eA en ec, .slice sA sn sc, .slice aA an ac, .slice nA nn nc, .slice pA pn pc] 28)).alloc (.cells #[.slice eA en ec, .bool true, .slice sA sn sc, .bool false] 78) = V at *
  go_loopw [16] (fun i wr => ∃ k : Nat, k ≤ 2 ∧ i = .int .i64 k ∧ Hid (firstE [cmdsE m.vars true m.env, cmdsE m.vars false m.sys] = firstE ([cmdsE m.vars true m.env, cmdsE m.vars false m.sys].drop k)) ∧ Below V.heap.size V wr) (fun i _ => 2 - (intOf i).toNat)
  case atStart => exact ⟨0, by omega, rfl, hide rfl, Below.refl _ _⟩
  case round =>
    obtain ⟨k, hk, rfl, HT, hbw⟩ := hrel
    have hzr := hbw.size
    by_cases hlt : k < 2
    · have hlt' : ((k : Int) < 2) := by omega
      obtain ⟨A, n, c, fl, l, c0, c1, hrow, hdr⟩ := cmds_tab (w.heap.size + 1) B wr ⟨eA, en, ec⟩ ⟨sA, sn, sc⟩ m ((hbw.block _ (by omega)).trans Htab.out) (Hrm1.out.below (hbw.mono (by omega))).2.2.2.2.1 (Hrm1.out.below (hbw.mono (by omega))).2.2.2.2.2.1 k hlt
      have HT2 : Hid (firstE [cmdsE m.vars true m.env, cmdsE m.vars false m.sys] = firstE (cmdsE m.vars fl l :: [cmdsE m.vars true m.env, cmdsE m.vars false m.sys].drop (k + 1))) := hide (by rw [← hdr]; exact HT.out)
      have hnl := hrow.1
      have hnc := hrow.2.1
      have hcm := hrow.2.2.1
      simp only at hnl hnc hcm
      unfold maxLen at hcm
      have Hnl := hide hnl
      have hbA := (Below.refl wr.heap.size wr).alloc (Nat.le_refl _) (.cells #[.slice A n c, .bool fl] 78)
      have HbA := hide (hbw.trans (hbA.mono hzr))
      have Hrow := hide (hrow.keep (w' := wr.alloc (.cells #[.slice A n c, .bool fl] 78)) (fun b o y h1 hy => CmdAt.keep h1 hy (fun p hp => (hbA.mono (by omega)).cell hp)))
      have Hfl : Hid ((wr.alloc (.cells #[.slice A n c, .bool fl] 78)).cell? ⟨wr.heap.size, 1, none⟩ = some (.bool fl)) := hide (by simp [go_sem])
      have hzA : wr.heap.size + 1 ≤ (wr.alloc (.cells #[.slice A n c, .bool fl] 78)).heap.size := by simp
      clear hrow hdr HT hbA hbw hnl
      go_wp2_with fail
      clear c0 c1
      generalize wr.alloc (.cells #[.slice A n c, .bool fl] 78) = U at *
      generalize hg : wr.heap.size = g at *
      clear hg
      go_loopw [23] (fun i wr => ∃ j : Nat, j ≤ n ∧ i = .int .i64 j ∧ Hid (cmdsE m.vars fl (l.drop j) = cmdsE m.vars fl l) ∧ Below U.heap.size U wr) (fun i _ => n - (intOf i).toNat)
      case atStart => exact ⟨0, by omega, rfl, hide rfl, Below.refl _ _⟩
      case round =>
        obtain ⟨j, hj, rfl, HS, hbu⟩ := hrel
        have hzu := hbu.size
        have hbm := HbA.out.trans (hbu.mono (by have := HbA.out.size; omega))
        by_cases hjl : j < n
        · have hjl' : ((j : Int) < (n : Int)) := by omega
          obtain ⟨b, off, c, eA2, hbB, hku, ⟨⟨⟨go, gn, gA, gl, gc⟩, ⟨c0, c1, c2⟩, hex⟩, ⟨tA, tn, tc⟩, c3, hrs⟩⟩ := ((Hrow.out).keep (w' := wr) (fun b o y h1 hy => CmdAt.keep h1 hy (fun p hp => (hbu.mono (by omega)).cell hp))).at_ (k := j) hjl
          simp only [SL.v] at eA2 c0 c1 c2 c3
          subst eA2
          have HS2 : Hid ((if cmdE m.vars c fl = 0 then cmdsE m.vars fl (l.drop (j + 1)) else cmdE m.vars c fl) = cmdsE m.vars fl l) := hide (by rw [← HS.out, drop_at hku, cmdsE])
          clear hku HS
          have hbC := (Below.refl wr.heap.size wr).alloc (Nat.le_refl _) (.cells #[.int .i64 go, .int .i64 gn, .slice gA gl gc, .slice tA tn tc] 31)
          have Hrc : Hid (RC (wr.alloc (.cells #[.int .i64 go, .int .i64 gn, .slice gA gl gc, .slice tA tn tc] 31)) B ⟨⟨go, gn, gA, gl, gc⟩, ⟨tA, tn, tc⟩⟩ c) := hide (RC.below (w := wr) ⟨hex, hrs⟩ (hbC.mono (by omega)))
          have Hrv2 := hide ((Hrm1.out.2.1.below (hbm.mono (by omega))).below (hbC.mono (by omega)))
          have HbC := hide (hbu.trans (hbC.mono hzu))
          have hzC : wr.heap.size + 1 ≤ (wr.alloc (.cells #[.int .i64 go, .int .i64 gn, .slice gA gl gc, .slice tA tn tc] 31)).heap.size := by simp
          obtain ⟨⟨f0, f1, f2⟩, f3⟩ := box4 wr go gn gA gl gc tA tn tc
          have q0 := (hbC.cell (p := ⟨w.heap.size, 0, none⟩) (by show w.heap.size < wr.heap.size; omega)).trans ((hbm.cell (p := ⟨w.heap.size, 0, none⟩) (by show w.heap.size < V.heap.size; omega)).trans Hbx2.out.all.1)
          have q1 := (hbC.cell (p := ⟨g, 1, none⟩) (by show g < wr.heap.size; omega)).trans ((hbu.cell (p := ⟨g, 1, none⟩) (by show g < U.heap.size; omega)).trans Hfl.out)
          simp only at q0
          clear hex hrs hbC hbu hbm
          go_wp2_with fail
          clear c0 c1 c2 c3 f0 f1 f2 f3 q0 q1
          generalize wr.alloc (.cells #[.int .i64 go, .int .i64 gn, .slice gA gl gc, .slice tA tn tc] 31) = W1 at *
          refine (dcmd_any B vA vn vc m.vars ⟨⟨go, gn, gA, gl, gc⟩, ⟨tA, tn, tc⟩⟩ c fl W1 Ho.out (by omega) Hrc.out Hrv2.out).mono ?_
          rintro e wc ⟨rfl, hbc⟩
          have Hbc := hide (HbC.out.trans (hbc.mono (by omega)))
          clear hbc HbC Hrc Hrv2
          by_cases hx : cmdE m.vars c fl = 0
          · have hxb : (cmdE m.vars c fl != 0) = false := by simp [hx]
            have HS3 : Hid (cmdsE m.vars fl (l.drop (j + 1)) = cmdsE m.vars fl l) := hide (by have h := HS2.out; rw [if_pos hx] at h; exact h)
            clear hx HS2
            go_wp2_with fail
            go_roundw
            case rel => exact ⟨j + 1, by omega, by go_num, HS3, Hbc.out⟩
            case measure => simp [intOf]; omega
          · have hxb : (cmdE m.vars c fl != 0) = true := by simp [hx]
            have Hf : Hid (firstE [cmdsE m.vars true m.env, cmdsE m.vars false m.sys] = cmdE m.vars c fl) := hide (by
              have h := HS2.out
              rw [if_neg hx] at h
              rw [first_not HT2.out (by rw [← h]; exact hx), ← h])
            have Hbf := hide (Hb1.out.trans ((HbA.out.trans (Hbc.out.mono (by have := HbA.out.size; omega))).mono (by have := Hb1.out.size; omega)))
            clear hx HS2
            go_wp2_with fail
            go_ret
            exact ⟨ret_int Hf.out.symm, Hbf.out⟩
        · have hjl' : ¬ ((j : Int) < (n : Int)) := by omega
          have hz0' : cmdsE m.vars fl l = 0 := by rw [← HS.out, List.drop_of_length_le (by rw [Hnl.out]; omega), cmdsE]
          have HN := hide (first_zero HT2.out hz0')
          clear hz0' HS hbu
          have Hbm := hide hbm
          clear hbm
          go_wp2_with fail
          go_roundw
          case rel => exact ⟨k + 1, by omega, by go_num, HN, Hbm.out⟩
          case measure => simp [intOf]; omega
    · have hlt' : ¬ ((k : Int) < 2) := by omega
      have Hf : Hid (firstE [cmdsE m.vars true m.env, cmdsE m.vars false m.sys] = 0) := hide (by
        rw [HT.out, List.drop_of_length_le (by simp; omega), firstE])
      have Hbf := hide (Hb1.out.trans (hbw.mono (by have := Hb1.out.size; omega)))
      go_wp2_with fail
      go_ret
      exact ⟨ret_int Hf.out.symm, Hbf.out⟩

set_option maxRecDepth 100000 in
set_option maxHeartbeats 4000000 in
theorem dgoals_any (B : Nat) (x : M8) (m : MT) (w : World) (hB : B ≤ w.heap.size) (hrm : RM w B x m) :
    Calls Try.prog 22 #[.agg x.cells] w fun e w' => e = .returned (.int .i64 (firstE [goalsE m.vars m.asm, goalsE m.vars m.ens, goalsE m.vars m.prio])) ∧ Below w.heap.size w w' := by
  have hbx := (Below.refl w.heap.size w).alloc (Nat.le_refl _) (.cells x.cells 28)
  have Hbx0 := hide (boxM_new w x)
  have Hb0 := hide hbx
  have hz0 : (w.alloc (.cells x.cells 28)).heap.size = w.heap.size + 1 := by simp
  have Hrm0 := hide (hrm.below (hbx.mono hB))
  have Ho := hide hrm.1
  obtain ⟨⟨vA, vn, vc⟩, ⟨io, im, iA, il, ic⟩, ⟨jo, jm, jA, jl, jc⟩, ⟨eA, en, ec⟩, ⟨sA, sn, sc⟩, ⟨aA, an, ac⟩, ⟨nA, nn, nc⟩, ⟨pA, pn, pc⟩⟩ := x
  clear hrm hbx
  simp only [M8.cells, SL.v] at *
  have Hbx1 := Hbx0
  obtain ⟨_, _, _, _, _, _, _, r1, r2, r3, r4, r5⟩ := Hbx1.out.all
  clear Hbx1
  simp only at r1 r2 r3 r4 r5
  have hbT := (Below.refl (w.alloc (.cells #[.slice vA vn vc, .int .i64 io, .int .i64 im, .slice iA il ic, .int .i64 jo, .int .i64 jm, .slice jA jl jc, .slice eA en ec, .slice sA sn sc, .slice aA an ac, .slice nA nn nc, .slice pA pn pc] 28)).heap.size (w.alloc (.cells #[.slice vA vn vc, .int .i64 io, .int .i64 im, .slice iA il ic, .int .i64 jo, .int .i64 jm, .slice jA jl jc, .slice eA en ec, .slice sA sn sc, .slice aA an ac, .slice nA nn nc, .slice pA pn pc] 28))).alloc (Nat.le_refl _) (.cells #[.slice aA an ac, .slice nA nn nc, .slice pA pn pc] 23)
  have Hb1 := hide (Hb0.out.trans (hbT.mono (by omega)))
  have Hrm1 := hide (Hrm0.out.below (hbT.mono (by omega)))
  have Hbx2 := hide (Hbx0.out.below hbT (by omega))
  have Htab : Hid (((w.alloc (.cells #[.slice vA vn vc, .int .i64 io, .int .i64 im, .slice iA il ic, .int .i64 jo, .int .i64 jm, .slice jA jl jc, .slice eA en ec, .slice sA sn sc, .slice aA an ac, .slice nA nn nc, .slice pA pn pc] 28)).alloc (.cells #[.slice aA an ac, .slice nA nn nc, .slice pA pn pc] 23)).heap[w.heap.size + 1]? = some (.cells #[.slice aA an ac, .slice nA nn nc, .slice pA pn pc] 23 (0, 0))) := hide (by
    have h := heap_alloc_new (w.alloc (.cells #[.slice vA vn vc, .int .i64 io, .int .i64 im, .slice iA il ic, .int .i64 jo, .int .i64 jm, .slice jA jl jc, .slice eA en ec, .slice sA sn sc, .slice aA an ac, .slice nA nn nc, .slice pA pn pc] 28)) (.cells #[.slice aA an ac, .slice nA nn nc, .slice pA pn pc] 23)
    rw [hz0] at h
    exact h)
  have hz1 : w.heap.size + 2 ≤ ((w.alloc (.cells #[.slice vA vn vc, .int .i64 io, .int .i64 im, .slice iA il ic, .int .i64 jo, .int .i64 jm, .slice jA jl jc, .slice eA en ec, .slice sA sn sc, .slice aA an ac, .slice nA nn nc, .slice pA pn pc] 28)).alloc (.cells #[.slice aA an ac, .slice nA nn nc, .slice pA pn pc] 23)).heap.size := by simp
  clear hbT Hb0 Hbx0 Hrm0
  go_enter Try.func22, Try.ntmps22
  go_wp2_with fail
  clear r1 r2 r3 r4 r5 hz0
  generalize (w.alloc (.cells #[.slice vA vn vc, .int .i64 io, .int .i64 im, .slice iA il ic, .int .i64 jo, .int .i64 jm, .slice jA jl jc, .slice eA en ec, .slice sA sn sc, .slice aA an ac, .slice nA nn nc, .slice pA pn pc] 28)).alloc (.cells #[.slice aA an ac, .slice nA nn nc, .slice pA pn pc] 23) = V at *
  go_loopw [16] (fun i wr => ∃ k : Nat, k ≤ 3 ∧ i = .int .i64 k ∧ Hid (firstE [goalsE m.vars m.asm, goalsE m.vars m.ens, goalsE m.vars m.prio] = firstE ([goalsE m.vars m.asm, goalsE m.vars m.ens, goalsE m.vars m.prio].drop k)) ∧ Below V.heap.size V wr) (fun i _ => 3 - (intOf i).toNat)
  case atStart => exact ⟨0, by omega, rfl, hide rfl, Below.refl _ _⟩
  case round =>
    obtain ⟨k, hk, rfl, HT, hbw⟩ := hrel
    have hzr := hbw.size
    by_cases hlt : k < 3
    · have hlt' : ((k : Int) < 3) := by omega
      obtain ⟨A, n, c, l, c0, hrow, hdr⟩ := goals_tab (w.heap.size + 1) B wr ⟨aA, an, ac⟩ ⟨nA, nn, nc⟩ ⟨pA, pn, pc⟩ m ((hbw.block _ (by omega)).trans Htab.out) (Hrm1.out.below (hbw.mono (by omega))).2.2.2.2.2.2.1 (Hrm1.out.below (hbw.mono (by omega))).2.2.2.2.2.2.2.1 (Hrm1.out.below (hbw.mono (by omega))).2.2.2.2.2.2.2.2 k hlt
      have HT2 : Hid (firstE [goalsE m.vars m.asm, goalsE m.vars m.ens, goalsE m.vars m.prio] = firstE (goalsE m.vars l :: [goalsE m.vars m.asm, goalsE m.vars m.ens, goalsE m.vars m.prio].drop (k + 1))) := hide (by rw [← hdr]; exact HT.out)
      have hnl := hrow.1
      have hnc := hrow.2.1
      have hcm := hrow.2.2.1
      simp only at hnl hnc hcm
      unfold maxLen at hcm
      have Hnl := hide hnl
      have Hrow := hide hrow
      have Hbw := hide hbw
      clear hrow hdr HT hbw hnl
      obtain ⟨U, rfl⟩ : ∃ U, U = wr := ⟨_, rfl⟩
      go_wp2_with fail
      clear c0
      go_loopw [22] (fun i wr => ∃ j : Nat, j ≤ n ∧ i = .int .i64 j ∧ Hid (goalsE m.vars (l.drop j) = goalsE m.vars l) ∧ Below U.heap.size U wr) (fun i _ => n - (intOf i).toNat)
      case atStart => exact ⟨0, by omega, rfl, hide rfl, Below.refl _ _⟩
      case round =>
        obtain ⟨j, hj, rfl, HS, hbu⟩ := hrel
        have hzu := hbu.size
        have hbm := Hbw.out.trans (hbu.mono (by have := Hbw.out.size; omega))
        by_cases hjl : j < n
        · have hjl' : ((j : Int) < (n : Int)) := by omega
          obtain ⟨b, off, te, eA2, hbB, hku, ⟨⟨go, gn, gA, gl, gc⟩, ⟨c0, c1, c2⟩, ⟨dg, hex⟩⟩⟩ := ((Hrow.out).keep (w' := wr) (fun b o y h1 hy => ExAt.keep h1 hy (fun p hp => (hbu.mono (by omega)).cell hp))).at_ (k := j) hjl
          simp only at eA2 c0 c1 c2 hex
          subst eA2
          have HS2 : Hid ((if needE m.vars te 1 true false false = 0 then goalsE m.vars (l.drop (j + 1)) else needE m.vars te 1 true false false) = goalsE m.vars l) := hide (by rw [← HS.out, drop_at hku, goalsE])
          clear hku HS
          have hbC := (Below.refl wr.heap.size wr).alloc (Nat.le_refl _) (.cells #[.int .i64 go, .int .i64 gn, .slice gA gl gc] 25)
          have Hex := hide (hex.below (hbC.mono (by omega)))
          have Hrv2 := hide ((Hrm1.out.2.1.below (hbm.mono (by omega))).below (hbC.mono (by omega)))
          have HbC := hide (hbu.trans (hbC.mono hzu))
          have hzC : wr.heap.size + 1 ≤ (wr.alloc (.cells #[.int .i64 go, .int .i64 gn, .slice gA gl gc] 25)).heap.size := by simp
          obtain ⟨f0, f1, f2⟩ := box_new wr go gn gA gl gc 25
          have q0 := (hbC.cell (p := ⟨w.heap.size, 0, none⟩) (by show w.heap.size < wr.heap.size; omega)).trans ((hbm.cell (p := ⟨w.heap.size, 0, none⟩) (by show w.heap.size < V.heap.size; omega)).trans Hbx2.out.all.1)
          simp only at q0
          clear hex hbC hbu hbm
          go_wp2_with fail
          clear c0 c1 c2 f0 f1 f2 q0
          generalize wr.alloc (.cells #[.int .i64 go, .int .i64 gn, .slice gA gl gc] 25) = W1 at *
          refine (dhold_any B vA vn vc m.vars dg go gn gA gl gc te W1 Ho.out (by omega) Hex.out Hrv2.out).mono ?_
          rintro e wc ⟨rfl, hbc⟩
          have Hbc := hide (HbC.out.trans (hbc.mono (by omega)))
          clear hbc HbC Hex Hrv2
          by_cases hx : needE m.vars te 1 true false false = 0
          · have hxb : (needE m.vars te 1 true false false != 0) = false := by simp [hx]
            have HS3 : Hid (goalsE m.vars (l.drop (j + 1)) = goalsE m.vars l) := hide (by have h := HS2.out; rw [if_pos hx] at h; exact h)
            clear hx HS2
            go_wp2_with fail
            go_roundw
            case rel => exact ⟨j + 1, by omega, by go_num, HS3, Hbc.out⟩
            case measure => simp [intOf]; omega
          · have hxb : (needE m.vars te 1 true false false != 0) = true := by simp [hx]
            have Hf : Hid (firstE [goalsE m.vars m.asm, goalsE m.vars m.ens, goalsE m.vars m.prio] = needE m.vars te 1 true false false) := hide (by
              have h := HS2.out
              rw [if_neg hx] at h
              rw [first_not HT2.out (by rw [← h]; exact hx), ← h])
            have Hbf := hide (Hb1.out.trans ((Hbw.out.trans (Hbc.out.mono (by have := Hbw.out.size; omega))).mono (by have := Hb1.out.size; omega)))
            clear hx HS2
            go_wp2_with fail
            go_ret
            exact ⟨ret_int Hf.out.symm, Hbf.out⟩
        · have hjl' : ¬ ((j : Int) < (n : Int)) := by omega
          have hz0' : goalsE m.vars l = 0 := by rw [← HS.out, List.drop_of_length_le (by rw [Hnl.out]; omega), goalsE]
          have HN := hide (first_zero HT2.out hz0')
          clear hz0' HS hbu
          have Hbm := hide hbm
          clear hbm
          go_wp2_with fail
          go_roundw
          case rel => exact ⟨k + 1, by omega, by go_num, HN, Hbm.out⟩
          case measure => simp [intOf]; omega
    · have hlt' : ¬ ((k : Int) < 3) := by omega
      have Hf : Hid (firstE [goalsE m.vars m.asm, goalsE m.vars m.ens, goalsE m.vars m.prio] = 0) := hide (by
        rw [HT.out, List.drop_of_length_le (by simp; omega), firstE])
      have Hbf := hide (Hb1.out.trans (hbw.mono (by have := Hb1.out.size; omega)))
      go_wp2_with fail
      go_ret
      exact ⟨ret_int Hf.out.symm, Hbf.out⟩
end Go.Proofs.Ytddbplgcglgloaa
