/- The walk of after: the vertices to which an edge leads. -/
import Derived.Test.YtbppdalfcldodaaGreatASucc
import Derived.Test.YtbppdalfcldodaaGreatCDevH
import Derived.Test.YtbppdalfcldodaaGreatCDev
set_option maxRecDepth 100000
namespace Go.Proofs.YtbppdalfcldodaaGreat
open Go.RowKit Ex
set_option linter.unusedSimpArgs false
set_option linter.unusedVariables false

theorem owns_base {w : World} {b b' e sz n : Nat} {v : Value} {xs : List Value} (h : w.ownsRow b e sz v n xs) (hb : b' ≤ b) : w.ownsRow b' e sz v n xs := by
  refine ⟨h.1, ?_⟩
  rcases h.2 with h4 | ⟨g, cap, cur, e, h4, h5⟩
  · exact .inl h4
  · exact .inr ⟨g, cap, cur, e, by omega, h5⟩
theorem initE_len (m : MT) : (initEnvL m).length ≤ 512 := by
  unfold initEnvL
  split
  · have := upTo_len (fun p => pickB m.vars p && trueE m.vars m.ie p p) (totN m)
    have h2 := (Dom.totL_bd m.vars).2
    unfold totN at this ⊢
    omega
  · simp
theorem initS_len (m : MT) (p : Int) : (initSysL m p).length ≤ 512 := by
  unfold initSysL
  split
  · have := upTo_len (fun s => (Dom.partL m.vars s true == p) && trueE m.vars m.is s s) (totN m)
    have h2 := (Dom.totL_bd m.vars).2
    unfold totN at this ⊢
    omega
  · simp
theorem env_len (m : MT) (s : Int) : (envL m s).length ≤ 512 := by
  unfold envL
  split
  · have := upTo_len (fun p => m.env.any (fun c => pickB m.vars p && doesB m.vars c true s s p)) (totN m)
    have h2 := (Dom.totL_bd m.vars).2
    unfold totN at this ⊢
    omega
  · simp
theorem sys_len (m : MT) (s p : Int) : (sysL m s p).length ≤ 512 := by
  unfold sysL
  split
  · have := upTo_len (fun z => m.sys.any (fun c => (Dom.partL m.vars z true == p) && doesB m.vars c false s p z)) (totN m)
    have h2 := (Dom.totL_bd m.vars).2
    unfold totN at this ⊢
    omega
  · simp
set_option maxHeartbeats 2000000 in
theorem after1 (B : Nat) (x : M8) (m : MT) (b c : Int) (w : World) (hB : B ≤ w.heap.size) (hrm : RM w B x m) :
    Calls Tryz.prog 41 #[.agg x.cells, .agg #[.int .i64 1, .int .i64 b, .int .i64 c]] w (VxPost w ((initEnvL m).map startV)) := by
  have hbx : Below w.heap.size w ((w.alloc (.cells x.cells 28)).alloc (.cells #[.int .i64 1, .int .i64 b, .int .i64 c] 57)) := ((Below.refl w.heap.size w).alloc (Nat.le_refl _) (.cells x.cells 28)).alloc (by simp) (.cells #[.int .i64 1, .int .i64 b, .int .i64 c] 57)
  have Hrm := hide (hrm.below (hbx.mono hB))
  have hbo := (boxM_new w x).below ((Below.refl _ _).alloc (Nat.le_refl _) (.cells #[.int .i64 1, .int .i64 b, .int .i64 c] 57)) (by simp)
  have Hb0 := hide hbx
  obtain ⟨d0, d1, d2⟩ := box57 (w.alloc (.cells x.cells 28)) 1 b c 57
  have hz1 : (w.alloc (.cells x.cells 28)).heap.size = w.heap.size + 1 := by simp
  have hz2 : ((w.alloc (.cells x.cells 28)).alloc (.cells #[.int .i64 1, .int .i64 b, .int .i64 c] 57)).heap.size = w.heap.size + 2 := by simp
  rw [hz1] at d0 d1 d2
  obtain ⟨i0, hi0, hz0, hy1, hy2⟩ := info57
  have Hi0 := hide hi0; have Hz0 := hide hz0; have Hz1 := hide hy1; have Hz2 := hide hy2
  clear hi0 hz0 hy1 hy2 hrm hbx
  obtain ⟨⟨vA, vn, vc⟩, ⟨io, im, iA, il, ic⟩, ⟨jo, jm, jA, jl, jc⟩, ⟨eA, en, ec⟩, ⟨sA, sn, sc⟩, ⟨aA, an, ac⟩, ⟨nA, nn, nc⟩, ⟨pA, pn, pc⟩⟩ := x
  simp only [M8.cells, SL.v] at *
  obtain ⟨q0, q1, q2, q3, q4, q5, q6, q7, q8, q9, q10, q11⟩ := row12 hbo
  simp only at q0 q1 q2 q3 q4 q5 q6 q7 q8 q9 q10 q11
  clear hbo
  go_enter Tryz.func41, Tryz.ntmps41
  go_wp2_with fail
  clear q0 q1 q2 q3 q4 q5 q6 q7 q8 q9 q10 q11
  generalize (w.alloc (.cells #[.slice vA vn vc, .int .i64 io, .int .i64 im, .slice iA il ic, .int .i64 jo, .int .i64 jm, .slice jA jl jc, .slice eA en ec, .slice sA sn sc, .slice aA an ac, .slice nA nn nc, .slice pA pn pc] 28)).alloc (.cells #[.int .i64 1, .int .i64 b, .int .i64 c] 57) = w0 at *
  refine (dinitE_any B ⟨⟨vA, vn, vc⟩, ⟨io, im, iA, il, ic⟩, ⟨jo, jm, jA, jl, jc⟩, ⟨eA, en, ec⟩, ⟨sA, sn, sc⟩, ⟨aA, an, ac⟩, ⟨nA, nn, nc⟩, ⟨pA, pn, pc⟩⟩ m w0 (by omega) Hrm.out).mono ?_
  intro e w1 hp
  obtain ⟨O, n, cO, rfl, p2, p3, p4⟩ := hp
  have hz3 := p4.size
  have Hb1 := hide (Hb0.out.trans (p4.mono (by omega)))
  have Hri := hide (ri_of_own p2)
  have Hn : Hid ((initEnvL m).length = n) := hide p3
  have hnl : n ≤ 512 := by rw [← p3]; exact initE_len m
  generalize initEnvL m = xs at *
  clear p2 p4 p3 Hb0 Hrm
  go_wp2_with fail
  go_loopw [5, 17] (fun ov i wr => ∃ (k cc : Nat) (O2 : Option Addr), k ≤ n ∧ i = .int .i64 k ∧ ov = .slice O2 k cc ∧ wr.ownsRow w1.heap.size 57 3 (.slice O2 k cc) k (vxs ((xs.take k).map (startV))) ∧ Below w1.heap.size w1 wr) (fun ov i _ => n - (intOf i).toNat)
  case atStart => exact ⟨0, 0, none, by omega, rfl, rfl, World.ownsRow_nil _ _ _ _, Below.refl _ _⟩
  case round =>
    obtain ⟨k, cc, O2, hk, rfl, rfl, hown, hb⟩ := hrel
    have Hown := hide hown
    have Hb := hide hb
    have hzr := hb.size
    clear hown hb
    by_cases hlt : k < n
    · have hlt' : ((k : Int) < (n : Int)) := by omega
      obtain ⟨pb, po, p, ePs, hpb, hpk, cp⟩ := Gr.RI.at_ (Gr.RI.below Hri.out Hb.out) hlt
      subst ePs
      have Htk := hide (take_map (startV) hpk)
      clear hpk
      go_wp2_with (at_builtin; refine wpList_append_lies _ rfl _ _ _ rfl w1.heap.size 57 i0 _ 3 24 Tryz.underlying36 Hi0.out Hz0.out Hz1.out Hz2.out rfl (by omega) (.slice O2 k cc) k (vxs ((xs.take k).map (startV))) rfl (kept_new Hown.out _) ⟨wr.heap.size, 0, none⟩ 1 1 [.int .i64 2, .int .i64 0, .int .i64 p] (by rfl) rfl (World.news_of_block (cs := #[.int .i64 2, .int .i64 0, .int .i64 p]) (t := 57) (fr := (0, 0)) (heap_alloc_new wr _)) (by simp [Value.oneCell']) (by omega) (by unfold maxLen; omega) (by omega) (by simp; omega) _ rfl ?_; intro gg cap w7 hown7 hgrow hat hlt7)
      have Hown7 : Hid (w7.ownsRow w1.heap.size 57 3 (.slice (some ⟨gg, 0, none⟩) (k + 1) cap) (k + 1) (vxs ((xs.take (k + 1)).map (startV)))) := hide (by rw [Htk.out, ← vxs_snoc]; exact hown7)
      have Hb7 := hide ((Hb.out.alloc hzr _).grown hgrow (by simp; omega) (fun z hz => (Hown.out.lt z hz).1))
      clear hown7 hgrow hat hlt7
      go_wp2_with fail
      go_roundw
      case rel => exact ⟨k + 1, cap, some ⟨gg, 0, none⟩, by omega, by go_num, rfl, Hown7.out, Hb7.out⟩
      case measure => simp [intOf]; omega
    · have hlt' : ¬ ((k : Int) < (n : Int)) := by omega
      obtain rfl : k = n := by omega
      go_wp2_with fail
      go_ret
      refine ⟨O2, k, cc, rfl, ?_, by simpa using Hn.out, Hb1.out.trans (Hb.out.mono (by omega))⟩
      have h := Hown.out
      rw [← Hn.out, List.take_length] at h
      rw [← Hn.out]; exact owns_base h (by omega)
set_option maxHeartbeats 2000000 in
theorem after2 (B : Nat) (x : M8) (m : MT) (b c : Int) (w : World) (hB : B ≤ w.heap.size) (hrm : RM w B x m) :
    Calls Tryz.prog 41 #[.agg x.cells, .agg #[.int .i64 2, .int .i64 b, .int .i64 c]] w (VxPost w ((initSysL m c).map envV)) := by
  have hbx : Below w.heap.size w ((w.alloc (.cells x.cells 28)).alloc (.cells #[.int .i64 2, .int .i64 b, .int .i64 c] 57)) := ((Below.refl w.heap.size w).alloc (Nat.le_refl _) (.cells x.cells 28)).alloc (by simp) (.cells #[.int .i64 2, .int .i64 b, .int .i64 c] 57)
  have Hrm := hide (hrm.below (hbx.mono hB))
  have hbo := (boxM_new w x).below ((Below.refl _ _).alloc (Nat.le_refl _) (.cells #[.int .i64 2, .int .i64 b, .int .i64 c] 57)) (by simp)
  have Hb0 := hide hbx
  obtain ⟨d0, d1, d2⟩ := box57 (w.alloc (.cells x.cells 28)) 2 b c 57
  have hz1 : (w.alloc (.cells x.cells 28)).heap.size = w.heap.size + 1 := by simp
  have hz2 : ((w.alloc (.cells x.cells 28)).alloc (.cells #[.int .i64 2, .int .i64 b, .int .i64 c] 57)).heap.size = w.heap.size + 2 := by simp
  rw [hz1] at d0 d1 d2
  obtain ⟨i0, hi0, hz0, hy1, hy2⟩ := info57
  have Hi0 := hide hi0; have Hz0 := hide hz0; have Hz1 := hide hy1; have Hz2 := hide hy2
  clear hi0 hz0 hy1 hy2 hrm hbx
  obtain ⟨⟨vA, vn, vc⟩, ⟨io, im, iA, il, ic⟩, ⟨jo, jm, jA, jl, jc⟩, ⟨eA, en, ec⟩, ⟨sA, sn, sc⟩, ⟨aA, an, ac⟩, ⟨nA, nn, nc⟩, ⟨pA, pn, pc⟩⟩ := x
  simp only [M8.cells, SL.v] at *
  obtain ⟨q0, q1, q2, q3, q4, q5, q6, q7, q8, q9, q10, q11⟩ := row12 hbo
  simp only at q0 q1 q2 q3 q4 q5 q6 q7 q8 q9 q10 q11
  clear hbo
  go_enter Tryz.func41, Tryz.ntmps41
  go_wp2_with fail
  clear q0 q1 q2 q3 q4 q5 q6 q7 q8 q9 q10 q11
  generalize (w.alloc (.cells #[.slice vA vn vc, .int .i64 io, .int .i64 im, .slice iA il ic, .int .i64 jo, .int .i64 jm, .slice jA jl jc, .slice eA en ec, .slice sA sn sc, .slice aA an ac, .slice nA nn nc, .slice pA pn pc] 28)).alloc (.cells #[.int .i64 2, .int .i64 b, .int .i64 c] 57) = w0 at *
  refine (dinitS_any B ⟨⟨vA, vn, vc⟩, ⟨io, im, iA, il, ic⟩, ⟨jo, jm, jA, jl, jc⟩, ⟨eA, en, ec⟩, ⟨sA, sn, sc⟩, ⟨aA, an, ac⟩, ⟨nA, nn, nc⟩, ⟨pA, pn, pc⟩⟩ m c w0 (by omega) Hrm.out).mono ?_
  intro e w1 hp
  obtain ⟨O, n, cO, rfl, p2, p3, p4⟩ := hp
  have hz3 := p4.size
  have Hb1 := hide (Hb0.out.trans (p4.mono (by omega)))
  have Hri := hide (ri_of_own p2)
  have hnl : (initSysL m c).length ≤ 4096 := Nat.le_trans (initS_len m c) (by omega)
  generalize initSysL m c = xs at *
  clear p2 p4 p3 Hb0 Hrm
  go_wp2_with fail
  refine (inStates_any w1.heap.size n cO O xs w1 (Nat.le_refl _) Hri.out hnl).mono ?_
  intro e w2 hp
  obtain ⟨O3, n3, c3, rfl, r2, r3, r4⟩ := hp
  have Hr2 := hide r2; have Hr3 := hide r3; have Hr4 := hide r4
  clear r2 r3 r4
  go_wp2_with fail
  go_ret
  exact ⟨O3, n3, c3, rfl, owns_base Hr2.out (by omega), Hr3.out, Hb1.out.trans (Hr4.out.mono (by omega))⟩
set_option maxHeartbeats 2000000 in
theorem after3 (B : Nat) (x : M8) (m : MT) (b c : Int) (w : World) (hB : B ≤ w.heap.size) (hrm : RM w B x m) :
    Calls Tryz.prog 41 #[.agg x.cells, .agg #[.int .i64 3, .int .i64 b, .int .i64 c]] w (VxPost w ((envL m b).map (sysV b))) := by
  have hbx : Below w.heap.size w ((w.alloc (.cells x.cells 28)).alloc (.cells #[.int .i64 3, .int .i64 b, .int .i64 c] 57)) := ((Below.refl w.heap.size w).alloc (Nat.le_refl _) (.cells x.cells 28)).alloc (by simp) (.cells #[.int .i64 3, .int .i64 b, .int .i64 c] 57)
  have Hrm := hide (hrm.below (hbx.mono hB))
  have hbo := (boxM_new w x).below ((Below.refl _ _).alloc (Nat.le_refl _) (.cells #[.int .i64 3, .int .i64 b, .int .i64 c] 57)) (by simp)
  have Hb0 := hide hbx
  obtain ⟨d0, d1, d2⟩ := box57 (w.alloc (.cells x.cells 28)) 3 b c 57
  have hz1 : (w.alloc (.cells x.cells 28)).heap.size = w.heap.size + 1 := by simp
  have hz2 : ((w.alloc (.cells x.cells 28)).alloc (.cells #[.int .i64 3, .int .i64 b, .int .i64 c] 57)).heap.size = w.heap.size + 2 := by simp
  rw [hz1] at d0 d1 d2
  obtain ⟨i0, hi0, hz0, hy1, hy2⟩ := info57
  have Hi0 := hide hi0; have Hz0 := hide hz0; have Hz1 := hide hy1; have Hz2 := hide hy2
  clear hi0 hz0 hy1 hy2 hrm hbx
  obtain ⟨⟨vA, vn, vc⟩, ⟨io, im, iA, il, ic⟩, ⟨jo, jm, jA, jl, jc⟩, ⟨eA, en, ec⟩, ⟨sA, sn, sc⟩, ⟨aA, an, ac⟩, ⟨nA, nn, nc⟩, ⟨pA, pn, pc⟩⟩ := x
  simp only [M8.cells, SL.v] at *
  obtain ⟨q0, q1, q2, q3, q4, q5, q6, q7, q8, q9, q10, q11⟩ := row12 hbo
  simp only at q0 q1 q2 q3 q4 q5 q6 q7 q8 q9 q10 q11
  clear hbo
  go_enter Tryz.func41, Tryz.ntmps41
  go_wp2_with fail
  clear q0 q1 q2 q3 q4 q5 q6 q7 q8 q9 q10 q11
  generalize (w.alloc (.cells #[.slice vA vn vc, .int .i64 io, .int .i64 im, .slice iA il ic, .int .i64 jo, .int .i64 jm, .slice jA jl jc, .slice eA en ec, .slice sA sn sc, .slice aA an ac, .slice nA nn nc, .slice pA pn pc] 28)).alloc (.cells #[.int .i64 3, .int .i64 b, .int .i64 c] 57) = w0 at *
  refine (denv_any B ⟨⟨vA, vn, vc⟩, ⟨io, im, iA, il, ic⟩, ⟨jo, jm, jA, jl, jc⟩, ⟨eA, en, ec⟩, ⟨sA, sn, sc⟩, ⟨aA, an, ac⟩, ⟨nA, nn, nc⟩, ⟨pA, pn, pc⟩⟩ m b w0 (by omega) Hrm.out).mono ?_
  intro e w1 hp
  obtain ⟨O, n, cO, rfl, p2, p3, p4⟩ := hp
  have hz3 := p4.size
  have Hb1 := hide (Hb0.out.trans (p4.mono (by omega)))
  have Hri := hide (ri_of_own p2)
  have Hn : Hid ((envL m b).length = n) := hide p3
  have hnl : n ≤ 512 := by rw [← p3]; exact env_len m b
  have Hd1 : Hid (w1.cell? ⟨w.heap.size + 1, 1, none⟩ = some (.int .i64 b)) := hide ((p4.cell (by show w.heap.size + 1 < _; omega)).trans d1)
  generalize envL m b = xs at *
  clear p2 p4 p3 Hb0 Hrm
  go_wp2_with fail
  go_loopw [5, 41] (fun ov i wr => ∃ (k cc : Nat) (O2 : Option Addr), k ≤ n ∧ i = .int .i64 k ∧ ov = .slice O2 k cc ∧ wr.ownsRow w1.heap.size 57 3 (.slice O2 k cc) k (vxs ((xs.take k).map (sysV b))) ∧ Below w1.heap.size w1 wr) (fun ov i _ => n - (intOf i).toNat)
  case atStart => exact ⟨0, 0, none, by omega, rfl, rfl, World.ownsRow_nil _ _ _ _, Below.refl _ _⟩
  case round =>
    obtain ⟨k, cc, O2, hk, rfl, rfl, hown, hb⟩ := hrel
    have Hown := hide hown
    have Hb := hide hb
    have hzr := hb.size
    clear hown hb
    by_cases hlt : k < n
    · have hlt' : ((k : Int) < (n : Int)) := by omega
      obtain ⟨pb, po, p, ePs, hpb, hpk, cp⟩ := Gr.RI.at_ (Gr.RI.below Hri.out Hb.out) hlt
      subst ePs
      have Htk := hide (take_map (sysV b) hpk)
      have d1r : wr.cell? ⟨w.heap.size + 1, 1, none⟩ = some (.int .i64 b) := (Hb.out.cell (by show w.heap.size + 1 < _; omega)).trans Hd1.out
      clear hpk
      go_wp2_with (at_builtin; refine wpList_append_lies _ rfl _ _ _ rfl w1.heap.size 57 i0 _ 3 24 Tryz.underlying36 Hi0.out Hz0.out Hz1.out Hz2.out rfl (by omega) (.slice O2 k cc) k (vxs ((xs.take k).map (sysV b))) rfl (kept_new Hown.out _) ⟨wr.heap.size, 0, none⟩ 1 1 [.int .i64 4, .int .i64 b, .int .i64 p] (by rfl) rfl (World.news_of_block (cs := #[.int .i64 4, .int .i64 b, .int .i64 p]) (t := 57) (fr := (0, 0)) (heap_alloc_new wr _)) (by simp [Value.oneCell']) (by omega) (by unfold maxLen; omega) (by omega) (by simp; omega) _ rfl ?_; intro gg cap w7 hown7 hgrow hat hlt7)
      have Hown7 : Hid (w7.ownsRow w1.heap.size 57 3 (.slice (some ⟨gg, 0, none⟩) (k + 1) cap) (k + 1) (vxs ((xs.take (k + 1)).map (sysV b)))) := hide (by rw [Htk.out, ← vxs_snoc]; exact hown7)
      have Hb7 := hide ((Hb.out.alloc hzr _).grown hgrow (by simp; omega) (fun z hz => (Hown.out.lt z hz).1))
      clear hown7 hgrow hat hlt7
      go_wp2_with fail
      go_roundw
      case rel => exact ⟨k + 1, cap, some ⟨gg, 0, none⟩, by omega, by go_num, rfl, Hown7.out, Hb7.out⟩
      case measure => simp [intOf]; omega
    · have hlt' : ¬ ((k : Int) < (n : Int)) := by omega
      obtain rfl : k = n := by omega
      go_wp2_with fail
      go_ret
      refine ⟨O2, k, cc, rfl, ?_, by simpa using Hn.out, Hb1.out.trans (Hb.out.mono (by omega))⟩
      have h := Hown.out
      rw [← Hn.out, List.take_length] at h
      rw [← Hn.out]; exact owns_base h (by omega)
set_option maxHeartbeats 2000000 in
theorem after4 (B : Nat) (x : M8) (m : MT) (b c : Int) (w : World) (hB : B ≤ w.heap.size) (hrm : RM w B x m) :
    Calls Tryz.prog 41 #[.agg x.cells, .agg #[.int .i64 4, .int .i64 b, .int .i64 c]] w (VxPost w ((sysL m b c).map envV)) := by
  have hbx : Below w.heap.size w ((w.alloc (.cells x.cells 28)).alloc (.cells #[.int .i64 4, .int .i64 b, .int .i64 c] 57)) := ((Below.refl w.heap.size w).alloc (Nat.le_refl _) (.cells x.cells 28)).alloc (by simp) (.cells #[.int .i64 4, .int .i64 b, .int .i64 c] 57)
  have Hrm := hide (hrm.below (hbx.mono hB))
  have hbo := (boxM_new w x).below ((Below.refl _ _).alloc (Nat.le_refl _) (.cells #[.int .i64 4, .int .i64 b, .int .i64 c] 57)) (by simp)
  have Hb0 := hide hbx
  obtain ⟨d0, d1, d2⟩ := box57 (w.alloc (.cells x.cells 28)) 4 b c 57
  have hz1 : (w.alloc (.cells x.cells 28)).heap.size = w.heap.size + 1 := by simp
  have hz2 : ((w.alloc (.cells x.cells 28)).alloc (.cells #[.int .i64 4, .int .i64 b, .int .i64 c] 57)).heap.size = w.heap.size + 2 := by simp
  rw [hz1] at d0 d1 d2
  obtain ⟨i0, hi0, hz0, hy1, hy2⟩ := info57
  have Hi0 := hide hi0; have Hz0 := hide hz0; have Hz1 := hide hy1; have Hz2 := hide hy2
  clear hi0 hz0 hy1 hy2 hrm hbx
  obtain ⟨⟨vA, vn, vc⟩, ⟨io, im, iA, il, ic⟩, ⟨jo, jm, jA, jl, jc⟩, ⟨eA, en, ec⟩, ⟨sA, sn, sc⟩, ⟨aA, an, ac⟩, ⟨nA, nn, nc⟩, ⟨pA, pn, pc⟩⟩ := x
  simp only [M8.cells, SL.v] at *
  obtain ⟨q0, q1, q2, q3, q4, q5, q6, q7, q8, q9, q10, q11⟩ := row12 hbo
  simp only at q0 q1 q2 q3 q4 q5 q6 q7 q8 q9 q10 q11
  clear hbo
  go_enter Tryz.func41, Tryz.ntmps41
  go_wp2_with fail
  clear q0 q1 q2 q3 q4 q5 q6 q7 q8 q9 q10 q11
  generalize (w.alloc (.cells #[.slice vA vn vc, .int .i64 io, .int .i64 im, .slice iA il ic, .int .i64 jo, .int .i64 jm, .slice jA jl jc, .slice eA en ec, .slice sA sn sc, .slice aA an ac, .slice nA nn nc, .slice pA pn pc] 28)).alloc (.cells #[.int .i64 4, .int .i64 b, .int .i64 c] 57) = w0 at *
  refine (dsys_any B ⟨⟨vA, vn, vc⟩, ⟨io, im, iA, il, ic⟩, ⟨jo, jm, jA, jl, jc⟩, ⟨eA, en, ec⟩, ⟨sA, sn, sc⟩, ⟨aA, an, ac⟩, ⟨nA, nn, nc⟩, ⟨pA, pn, pc⟩⟩ m b c w0 (by omega) Hrm.out).mono ?_
  intro e w1 hp
  obtain ⟨O, n, cO, rfl, p2, p3, p4⟩ := hp
  have hz3 := p4.size
  have Hb1 := hide (Hb0.out.trans (p4.mono (by omega)))
  have Hri := hide (ri_of_own p2)
  have hnl : (sysL m b c).length ≤ 4096 := Nat.le_trans (sys_len m b c) (by omega)
  generalize sysL m b c = xs at *
  clear p2 p4 p3 Hb0 Hrm
  go_wp2_with fail
  refine (inStates_any w1.heap.size n cO O xs w1 (Nat.le_refl _) Hri.out hnl).mono ?_
  intro e w2 hp
  obtain ⟨O3, n3, c3, rfl, r2, r3, r4⟩ := hp
  have Hr2 := hide r2; have Hr3 := hide r3; have Hr4 := hide r4
  clear r2 r3 r4
  go_wp2_with fail
  go_ret
  exact ⟨O3, n3, c3, rfl, owns_base Hr2.out (by omega), Hr3.out, Hb1.out.trans (Hr4.out.mono (by omega))⟩
theorem after_any (B : Nat) (x : M8) (m : MT) (v : Vx) (T : Nat) (w : World) (hB : B ≤ w.heap.size) (hrm : RM w B x m) (hv : OkV (T : Int) v) :
    Calls Tryz.prog 41 #[.agg x.cells, vxV v] w (VxPost w (succV m v)) := by
  rcases hv with rfl | ⟨p, rfl, _, _⟩ | ⟨s, rfl, _, _⟩ | ⟨s, p, rfl, _, _, _, _⟩
  · exact after1 B x m 0 0 w hB hrm
  · have e : succV m (startV p) = (initSysL m p).map envV := by simp [succV, startV]
    rw [e]; exact after2 B x m 0 p w hB hrm
  · have e : succV m (envV s) = (envL m s).map (sysV s) := by simp [succV, envV]
    rw [e]; exact after3 B x m s 0 w hB hrm
  · have e : succV m (sysV s p) = (sysL m s p).map envV := by simp [succV, sysV]
    rw [e]; exact after4 B x m s p w hB hrm
end Go.Proofs.YtbppdalfcldodaaGreat
