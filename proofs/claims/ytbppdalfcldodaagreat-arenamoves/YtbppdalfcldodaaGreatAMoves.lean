/- The walk of ArenaMoves. -/
import Derived.Test.YtbppdalfcldodaaGreatALaw
import Derived.Test.YtbppdalfcldodaaGreatAAwake
import Derived.Test.YtbppdalfcldodaaGreatGMd
import Derived.Test.YtbppdalfcldodaaGreatATurns
import Derived.Test.YtbppdalfcldodaaGreatGReach
import Derived.Test.YtbppdalfcldodaaGreatCInitsA
import Derived.Deep.Cut
import Derived.Deep.CutRange
set_option maxRecDepth 100000
namespace Go.Proofs.YtbppdalfcldodaaGreat
open Go.RowKit Ex Go.WideMaps Go.Maps
set_option linter.unusedSimpArgs false
set_option linter.unusedVariables false

/- a map of marks whose keys are just ks, each once -/
def MarkIs (D : DataW Unit) (ks : List Int) : Prop := OneIs D ks ∧ (∀ k : Int, Maps.has D (.int .i64 k) = decide (k ∈ ks)) ∧ Maps.size D = ks.length ∧ ks.Nodup ∧ Tidy D
theorem MarkIs.start : MarkIs (.map []) [] := ⟨OneIs.start, fun k => by simp [Maps.has], rfl, List.nodup_nil, tidy_empty⟩
theorem MarkIs.new {D : DataW Unit} {ks : List Int} (h : MarkIs D ks) {x : Int} (hx : x ∉ ks) : MarkIs (D.put (.int .i64 x) (.lit (.int .i64 1))) (ks ++ [x]) := by
  obtain ⟨h1, h2, h3, h4, h5⟩ := h
  have hk : WideAt.IsKeyLit (.int .i64 x) := by simp [WideAt.IsKeyLit]
  refine ⟨h1.put h5.isMap x, fun k => ?_, ?_, ?_, h5.put hk _⟩
  · by_cases e : k = x
    · subst e
      rw [has_put_same h5.isMap hk]; simp
    · rw [has_put_other (fun hh => e (by injection hh)), h2 k]; simp [e]
  · rw [size_put h5, h2 x, if_neg (by simp [hx]), h3]; simp
  · rw [List.nodup_append]
    refine ⟨h4, by simp, fun a ha b hb => ?_⟩
    simp at hb
    subst hb
    exact fun e => hx (e ▸ ha)
theorem one_yes {D : DataW Unit} {xs : List Int} {k c : Int} (h : OneIs D xs) (hk : k ∈ xs) (hat : D.atKey (.int .i64 k) (.lit (.int .i64 0)) = .lit (.int .i64 c)) : c = 1 := by
  rw [h k, if_pos hk] at hat
  injection hat with hat; injection hat with _ hat; exact hat.symm
theorem umodL (a : Int) (L : Nat) (h : 1 ≤ L) : ∃ kk : Nat, kk < L ∧ (IntKind.u64.wrap a).tmod (L : Int) = (kk : Int) := by
  have h0 : 0 ≤ IntKind.u64.wrap a := by rw [IntKind.wrap_u64]; omega
  rw [Int.tmod_eq_emod_of_nonneg h0]
  have h3 := Int.emod_nonneg (IntKind.u64.wrap a) (show (L : Int) ≠ 0 by omega)
  have h4 := Int.emod_lt_of_pos (IntKind.u64.wrap a) (show 0 < (L : Int) by omega)
  exact ⟨(IntKind.u64.wrap a % (L : Int)).toNat, by omega, by omega⟩
/- where choice says that one goes -/
def wantL (m : MT) (x : Vx) : List Int := if x.1 = 1 then initEnvL m else if x.1 = 2 then initSysL m x.2.2 else if x.1 = 3 then envL m x.2.1 else sysL m x.2.1 x.2.2
def keyN (y : Vx) : Int := if y.1 = 2 ∨ y.1 = 4 then y.2.2 else y.2.1
theorem want_keys {m : MT} {x : Vx} {T : Int} (hx : OkV T x) : (succV m x).map keyN = wantL m x := by
  rcases hx with rfl | ⟨p, rfl, _⟩ | ⟨s, rfl, _⟩ | ⟨s, p, rfl, _⟩
  · have e : succV m rootV = (initEnvL m).map startV := by simp [succV, rootV]
    rw [e, List.map_map]
    show _ = initEnvL m
    conv => rhs; rw [← List.map_id (initEnvL m)]
    exact List.map_congr_left fun p _ => by simp [keyN, startV]
  · have e : succV m (startV p) = (initSysL m p).map envV := by simp [succV, startV]
    have e2 : wantL m (startV p) = initSysL m p := by simp [wantL, startV]
    rw [e, e2, List.map_map]
    conv => rhs; rw [← List.map_id (initSysL m p)]
    exact List.map_congr_left fun p _ => by simp [keyN, envV]
  · have e : succV m (envV s) = (envL m s).map (sysV s) := by simp [succV, envV]
    have e2 : wantL m (envV s) = envL m s := by simp [wantL, envV]
    rw [e, e2, List.map_map]
    conv => rhs; rw [← List.map_id (envL m s)]
    exact List.map_congr_left fun p _ => by simp [keyN, sysV]
  · have e : succV m (sysV s p) = (sysL m s p).map envV := by simp [succV, sysV]
    have e2 : wantL m (sysV s p) = sysL m s p := by simp [wantL, sysV]
    rw [e, e2, List.map_map]
    conv => rhs; rw [← List.map_id (sysL m s p)]
    exact List.map_congr_left fun p _ => by simp [keyN, envV]
theorem want_nodup (m : MT) (x : Vx) : (wantL m x).Nodup := by
  unfold wantL
  split
  · exact up_nodup (initE_up m)
  · split
    · exact up_nodup (initS_up m _)
    · split
      · exact up_nodup (env_up m _)
      · exact up_nodup (sys_up m _ _)
theorem want_bd {m : MT} {x : Vx} {n : Int} (h : n ∈ wantL m x) : 0 ≤ n ∧ n < (totN m : Int) := by
  unfold wantL at h
  split at h
  · exact initE_bd h
  · split at h
    · exact initS_bd h
    · split at h
      · exact env_bd h
      · exact sys_bd h
theorem want_len (m : MT) (x : Vx) : (wantL m x).length ≤ 512 := by
  unfold wantL
  split
  · exact initE_len m
  · split
    · exact initS_len m _
    · split
      · exact env_len m _
      · exact sys_len m _ _
/- the keys that one meets along a row -/
def metL (ats : List Vx) (row : List Int) : List Int := row.map fun w => keyN (ats.getD w.toNat rootV)
theorem met_perm {m : MT} {ats : List Vx} {nxs : List (List Int)} (h : Arena m ats nxs) {j : Nat} {x : Vx} {row : List Int} (hx : ats[j]? = some x) (hr : nxs[j]? = some row) : (metL ats row).Perm (wantL m x) := by
  obtain ⟨h1, h2⟩ := h.next j x hx
  rw [hr] at h2
  obtain rfl := Option.some.inj h2
  rw [← want_keys (h.ok x (List.mem_of_getElem? hx))]
  refine ((List.mergeSort_perm _ _).map _).trans ?_
  rw [List.map_map]
  refine List.Perm.of_eq (List.map_congr_left fun y hy => ?_)
  obtain ⟨i, e1, _, e3⟩ := numI_get (h1 y hy)
  show keyN (ats.getD (numI ats y).toNat rootV) = keyN y
  rw [e1]
  simp [List.getD, e3]
theorem take_snoc {α : Type} {xs : List α} {k : Nat} {p : α} (h : xs[k]? = some p) : xs.take (k + 1) = xs.take k ++ [p] := by
  rw [List.take_add_one, h]; rfl
theorem new_key {l : List Int} (hd : l.Nodup) {k : Nat} {x : Int} (h : l[k]? = some x) : x ∉ l.take k := fun hm => by
  obtain ⟨j, hj⟩ := List.mem_iff_getElem?.1 hm
  have hjk : j < k := by
    have := (List.getElem?_eq_some_iff.1 hj).1
    rw [List.length_take] at this; omega
  rw [List.getElem?_take_of_lt hjk] at hj
  obtain ⟨hk1, e1⟩ := List.getElem?_eq_some_iff.1 h
  obtain ⟨hj1, e2⟩ := List.getElem?_eq_some_iff.1 hj
  exact (List.pairwise_iff_getElem.1 hd j k hj1 hk1 hjk) (e2.trans e1.symm)
set_option maxHeartbeats 16000000 in
theorem amoves_any (B : Nat) (x : M8) (m : MT) (v0 : Int) (w : World) (hB : B ≤ w.heap.size) (hrm : RM w B x m) :
    Calls Tryz.prog 5 #[.agg x.cells, .int .i64 v0] w fun e w' => e = .returned (.bool true) ∧ Below w.heap.size w w' := by
  have hbx := (Below.refl w.heap.size w).alloc (Nat.le_refl _) (.cells x.cells 28)
  have Hrm0 := hide (hrm.below (hbx.mono hB))
  have Hbx0 := hide (boxM_new w x)
  have Hb0 := hide hbx
  have hz0 : w.heap.size + 1 ≤ (w.alloc (.cells x.cells 28)).heap.size := by simp
  obtain ⟨⟨vA, vn, vc⟩, ⟨io, im, iA, il, ic⟩, ⟨jo, jm, jA, jl, jc⟩, ⟨eA, en, ec⟩, ⟨sA, sn, sc⟩, ⟨aA, an, ac⟩, ⟨nA, nn, nc⟩, ⟨pA, pn, pc⟩⟩ := x
  clear hrm hbx
  simp only [M8.cells, SL.v] at *
  obtain ⟨q0, q1, q2, q3, q4, q5, q6, q7, q8, q9, q10, q11⟩ := row12 Hbx0.out
  simp only at q0 q1 q2 q3 q4 q5 q6 q7 q8 q9 q10 q11
  go_enter Tryz.func5, Tryz.ntmps5
  go_wp2_with fail
  clear q0 q1 q2 q3 q4 q5 q6 q7 q8 q9 q10 q11
  generalize w.alloc (.cells #[.slice vA vn vc, .int .i64 io, .int .i64 im, .slice iA il ic, .int .i64 jo, .int .i64 jm, .slice jA jl jc, .slice eA en ec, .slice sA sn sc, .slice aA an ac, .slice nA nn nc, .slice pA pn pc] 28) = w0 at *
  generalize hN : w.heap.size = N at *
  refine (hv6_any B ⟨⟨vA, vn, vc⟩, ⟨io, im, iA, il, ic⟩, ⟨jo, jm, jA, jl, jc⟩, ⟨eA, en, ec⟩, ⟨sA, sn, sc⟩, ⟨aA, an, ac⟩, ⟨nA, nn, nc⟩, ⟨pA, pn, pc⟩⟩ m w0 (by omega) Hrm0.out).mono ?_
  rintro e w1 ⟨rfl, hb1⟩
  have hz1 := hb1.size
  have Hb1 := hide (Hb0.out.trans (hb1.mono (by omega)))
  have Hrm1 := hide (Hrm0.out.below (hb1.mono (by omega)))
  have Hbx1 := hide (Hbx0.out.below hb1 (by omega))
  clear hb1 Hb0 Hrm0 Hbx0
  have Htot : Hid (hv6 m = 0 → totN m ≤ 24) := hide hv6_tot
  have hnn : 0 ≤ hv6 m := hv6_nonneg m
  generalize hv6 m = hv at *
  by_cases hh : 0 < hv
  case pos =>
    have hhb : decide (0 < hv) = true := by simp [hh]
    clear hnn
    go_wp2_with fail
    refine (awake_any _).mono ?_
    rintro e y1 ⟨rfl, hby⟩
    go_wp2_with fail
    go_ret
    exact ⟨rfl, by rw [hN]; exact Hb1.out.trans (hby.mono (by omega))⟩
  case neg =>
    have hhb : decide (0 < hv) = false := by simp; omega
    have hT : totN m ≤ 24 := Htot.out (by omega)
    clear Htot hh hnn
    obtain ⟨q0, q1, q2, q3, q4, q5, q6, q7, q8, q9, q10, q11⟩ := row12 Hbx1.out
    simp only at q0 q1 q2 q3 q4 q5 q6 q7 q8 q9 q10 q11
    go_wp2_with fail
    clear q0 q1 q2 q3 q4 q5 q6 q7 q8 q9 q10 q11
    refine (rmod_any B ⟨⟨vA, vn, vc⟩, ⟨io, im, iA, il, ic⟩, ⟨jo, jm, jA, jl, jc⟩, ⟨eA, en, ec⟩, ⟨sA, sn, sc⟩, ⟨aA, an, ac⟩, ⟨nA, nn, nc⟩, ⟨pA, pn, pc⟩⟩ m w1 (by omega) Hrm1.out).mono ?_
    rintro e w2 ⟨rfl, hb2⟩
    have hz2 := hb2.size
    have Hb2 := hide (Hb1.out.trans (hb2.mono (by omega)))
    have Hrm2 := hide (Hrm1.out.below (hb2.mono (by omega)))
    have Hbx2 := hide (Hbx1.out.below hb2 (by omega))
    clear hb2 Hb1 Hrm1 Hbx1
    by_cases hc : modE m = 0
    case neg =>
      have hcb : (modE m != 0) = true := by simp [hc]
      go_wp2_with fail
      refine (awake_any _).mono ?_
      rintro e y1 ⟨rfl, hby⟩
      go_wp2_with fail
      go_ret
      exact ⟨rfl, by rw [hN]; exact Hb2.out.trans (hby.mono (by omega))⟩
    case pos =>
      have hcb : (modE m != 0) = false := by simp [hc]
      have Hc := hide hc
      obtain ⟨q0, q1, q2, q3, q4, q5, q6, q7, q8, q9, q10, q11⟩ := row12 Hbx2.out
      simp only at q0 q1 q2 q3 q4 q5 q6 q7 q8 q9 q10 q11
      clear hc
      go_wp2_with fail
      clear q0 q1 q2 q3 q4 q5 q6 q7 q8 q9 q10 q11 hcb
      refine (dbuild_any B ⟨⟨vA, vn, vc⟩, ⟨io, im, iA, il, ic⟩, ⟨jo, jm, jA, jl, jc⟩, ⟨eA, en, ec⟩, ⟨sA, sn, sc⟩, ⟨aA, an, ac⟩, ⟨nA, nn, nc⟩, ⟨pA, pn, pc⟩⟩ m w2 (by omega) Hrm2.out (fun _ => hT)).mono ?_
      rintro e w3 ⟨⟨OA, on, oc⟩, ⟨NA, nn2, nc2⟩, ⟨AA, L, ac2⟩, rfl, hrg, hrv, hb3⟩
      have hz3 := hb3.size
      have Har : Hid (Arena m (atL m) (nextL m)) := hide (arena_is hT)
      have hL625 := ar_len hT
      have ha1 : arAt m = atL m := by unfold arAt; rw [if_pos Hc.out]
      have ha2 : arNxt m = nextL m := by unfold arNxt; rw [if_pos Hc.out]
      have ha3 : arOwn m = (atL m).map ownV := by unfold arOwn; rw [ha1]
      rw [ha1] at hrv
      rw [ha2, ha3] at hrg
      have hpos := Har.out.pos
      generalize atL m = ats at *
      generalize nextL m = nxs at *
      have hLl : ats.length = L := hrv.1
      obtain rfl : L = on := by have := hrg.own.len; simp at this; omega
      obtain rfl : L = nn2 := by have := hrg.nxt.len; have h2 := Har.out.len; simp only at this; omega
      have Hmay : Hid (Gr.mayG ⟨ats.map ownV, nxs⟩ = 0) := hide (Har.out.may (by omega))
      have hL1 : 1 ≤ L := by omega
      have hL2 : L ≤ 625 := by omega
      have hbox := (Below.refl w3.heap.size w3).alloc (Nat.le_refl _) (.cells #[.slice OA L oc, .slice NA L nc2, .slice AA L ac2] 38)
      have Hrg := hide ((hrg.below hbox).more (Nat.le_succ _))
      have Hrv := hide ((hrv.below hbox).more (Nat.le_succ _))
      have Hb4 := hide ((Hb2.out.trans (hb3.mono (by omega))).trans (hbox.mono (by omega)))
      have Hrm4 := hide ((Hrm2.out.below (hb3.mono (by omega))).below (hbox.mono (by omega)))
      have Hbx4 := hide ((Hbx2.out.below hb3 (by omega)).below hbox (by omega))
      have Hk := hide (box3_cells (heap_alloc_new w3 (.cells #[.slice OA L oc, .slice NA L nc2, .slice AA L ac2] 38)))
      have hz4 : (w3.alloc (.cells #[.slice OA L oc, .slice NA L nc2, .slice AA L ac2] 38)).heap.size = w3.heap.size + 1 := by simp
      have Hlen : Hid (ats.length = L) := hide hLl
      have hme : (modE m != 0) = false := by rw [Hc.out]; rfl
      simp only [Gr.SL.v, SL.v]
      clear hrg hrv hb3 hbox ha1 ha2 ha3 hLl hpos Hb2 Hrm2 Hbx2 hL625
      generalize hw4 : w3.alloc (.cells #[.slice OA L oc, .slice NA L nc2, .slice AA L ac2] 38) = w4 at *
      generalize hQQ : w3.heap.size = Q at *
      obtain ⟨k0, k1, k2, _⟩ := Hk.out
      obtain ⟨kk, hkk, hwe⟩ := umodL v0 L hL1
      have huL : IntKind.u64.wrap (L : Int) = (L : Int) := by rw [IntKind.wrap_u64]; omega
      have hww : IntKind.i64.wrap (kk : Int) = (kk : Int) := by rw [IntKind.wrap_i64]; omega
      have hkk' : ((kk : Int) < (L : Int)) := by omega
      obtain ⟨pb, po, p, q, r, ePs, hpb, hpk, cp, cq, cr⟩ := RVx.at_ Hrv.out hkk
      obtain ⟨nb, no, row, A2, n2, c2, eN, hnb, hrow, cn, hri⟩ := Gr.RR.at_ Hrg.out.nxt hkk
      subst ePs; subst eN
      have hokx := Har.out.ok _ (List.mem_of_getElem? hpk)
      have Hokx := hide hokx
      have Hperm := hide (met_perm Har.out hpk hrow)
      have Hedge : Hid (∀ w ∈ row, ∃ (i : Nat) (y : Vx), w = (i : Int) ∧ i < ats.length ∧ ats[i]? = some y ∧ y ∈ succV m (p, q, r)) := hide fun w hw => Har.out.edge hrow hpk hw
      have hkind : p = 1 ∨ p = 2 ∨ p = 3 ∨ p = 4 := by
        rcases hokx with e | ⟨_, e, _⟩ | ⟨_, e, _⟩ | ⟨_, _, e, _⟩ <;> (have := congrArg Prod.fst e; simp [rootV, startV, envV, sysV] at this; omega)
      have Hkind := hide hkind
      have hbA := (Below.refl w4.heap.size w4).alloc (Nat.le_refl _) (.cells #[.int .i64 p, .int .i64 q, .int .i64 r] 57)
      have HbA : Hid (Below (Q + 1) w4 (w4.alloc (.cells #[.int .i64 p, .int .i64 q, .int .i64 r] 57))) := hide (by rw [← hz4]; exact hbA)
      obtain ⟨d0, d1, d2⟩ := box57 w4 p q r 57
      rw [hz4] at d0 d1 d2
      have hzA : (w4.alloc (.cells #[.int .i64 p, .int .i64 q, .int .i64 r] 57)).heap.size = w4.heap.size + 1 := by simp
      have Hcn := hide cn
      have Hri := hide hri
      have hk2 : w4.cell? ⟨Q, 2, none⟩ = some (.slice (some ⟨pb, po, none⟩) L ac2) := Hk.out.2.2.1
      clear hokx hbA hkind hrow hpk hri cn
      go_upto_region 11 with fail
      clear hwe huL hww k0 k1 k2 cp cq cr hk2
      have e0 := d0
      have e1 := d1
      have e2 := d2
      have Hd0 := hide d0; have Hd1 := hide d1
      have hrmA := hide (Hrm4.out.below (HbA.out.mono (by omega)))
      have hbxA := hide (Hbx4.out.below HbA.out (by omega))
      clear d0 d1 d2
      generalize w4.alloc (.cells #[.int .i64 p, .int .i64 q, .int .i64 r] 57) = w5 at *
      rcases Hkind.out with hp | hp | hp | hp
      focus
        have Hp := hide hp
        have t1 : (p == 1) = true := by simp [hp]
        clear hp
        obtain ⟨q0, q1, q2, q3, q4, q5, q6, q7, q8, q9, q10, q11⟩ := row12 hbxA.out
        simp only at q0 q1 q2 q3 q4 q5 q6 q7 q8 q9 q10 q11
        go_wp2_with fail
        clear q0 q1 q2 q3 q4 q5 q6 q7 q8 q9 q10 q11 t1
        refine (dinitE_any B ⟨⟨vA, vn, vc⟩, ⟨io, im, iA, il, ic⟩, ⟨jo, jm, jA, jl, jc⟩, ⟨eA, en, ec⟩, ⟨sA, sn, sc⟩, ⟨aA, an, ac⟩, ⟨nA, nn, nc⟩, ⟨pA, pn, pc⟩⟩ m w5 (by omega) hrmA.out).mono ?_
        rintro e w6 ⟨Ow, nw, cw, rfl, p2, p3, p4⟩
        have Hwant : Hid (Gr.RI w6 w6.heap.size ⟨Ow, nw, cw⟩ (wantL m (p, q, r))) := hide (by rw [show wantL m (p, q, r) = initEnvL m by simp [wantL, Hp.out]]; exact ri_of_own p2)
        have Hb6 := hide p4
        clear p2 p3 p4 Hp
      rotate_left
      focus
        have Hp := hide hp
        have t1 : (p == 1) = false := by simp [hp]
        have t2 : (p == 2) = true := by simp [hp]
        clear hp
        obtain ⟨q0, q1, q2, q3, q4, q5, q6, q7, q8, q9, q10, q11⟩ := row12 hbxA.out
        simp only at q0 q1 q2 q3 q4 q5 q6 q7 q8 q9 q10 q11
        go_wp2_with fail
        clear q0 q1 q2 q3 q4 q5 q6 q7 q8 q9 q10 q11 t1 t2
        refine (dinitS_any B ⟨⟨vA, vn, vc⟩, ⟨io, im, iA, il, ic⟩, ⟨jo, jm, jA, jl, jc⟩, ⟨eA, en, ec⟩, ⟨sA, sn, sc⟩, ⟨aA, an, ac⟩, ⟨nA, nn, nc⟩, ⟨pA, pn, pc⟩⟩ m r w5 (by omega) hrmA.out).mono ?_
        rintro e w6 ⟨Ow, nw, cw, rfl, p2, p3, p4⟩
        have Hwant : Hid (Gr.RI w6 w6.heap.size ⟨Ow, nw, cw⟩ (wantL m (p, q, r))) := hide (by rw [show wantL m (p, q, r) = initSysL m r by simp [wantL, Hp.out]]; exact ri_of_own p2)
        have Hb6 := hide p4
        clear p2 p3 p4 Hp
      rotate_left
      focus
        have Hp := hide hp
        have t1 : (p == 1) = false := by simp [hp]
        have t2 : (p == 2) = false := by simp [hp]
        have t3 : (p == 3) = true := by simp [hp]
        clear hp
        obtain ⟨q0, q1, q2, q3, q4, q5, q6, q7, q8, q9, q10, q11⟩ := row12 hbxA.out
        simp only at q0 q1 q2 q3 q4 q5 q6 q7 q8 q9 q10 q11
        go_wp2_with fail
        clear q0 q1 q2 q3 q4 q5 q6 q7 q8 q9 q10 q11 t1 t2 t3
        refine (denv_any B ⟨⟨vA, vn, vc⟩, ⟨io, im, iA, il, ic⟩, ⟨jo, jm, jA, jl, jc⟩, ⟨eA, en, ec⟩, ⟨sA, sn, sc⟩, ⟨aA, an, ac⟩, ⟨nA, nn, nc⟩, ⟨pA, pn, pc⟩⟩ m q w5 (by omega) hrmA.out).mono ?_
        rintro e w6 ⟨Ow, nw, cw, rfl, p2, p3, p4⟩
        have Hwant : Hid (Gr.RI w6 w6.heap.size ⟨Ow, nw, cw⟩ (wantL m (p, q, r))) := hide (by rw [show wantL m (p, q, r) = envL m q by simp [wantL, Hp.out]]; exact ri_of_own p2)
        have Hb6 := hide p4
        clear p2 p3 p4 Hp
      rotate_left
      focus
        have Hp := hide hp
        have t1 : (p == 1) = false := by simp [hp]
        have t2 : (p == 2) = false := by simp [hp]
        have t3 : (p == 3) = false := by simp [hp]
        clear hp
        obtain ⟨q0, q1, q2, q3, q4, q5, q6, q7, q8, q9, q10, q11⟩ := row12 hbxA.out
        simp only at q0 q1 q2 q3 q4 q5 q6 q7 q8 q9 q10 q11
        go_wp2_with fail
        clear q0 q1 q2 q3 q4 q5 q6 q7 q8 q9 q10 q11 t1 t2 t3
        refine (dsys_any B ⟨⟨vA, vn, vc⟩, ⟨io, im, iA, il, ic⟩, ⟨jo, jm, jA, jl, jc⟩, ⟨eA, en, ec⟩, ⟨sA, sn, sc⟩, ⟨aA, an, ac⟩, ⟨nA, nn, nc⟩, ⟨pA, pn, pc⟩⟩ m q r w5 (by omega) hrmA.out).mono ?_
        rintro e w6 ⟨Ow, nw, cw, rfl, p2, p3, p4⟩
        have Hwant : Hid (Gr.RI w6 w6.heap.size ⟨Ow, nw, cw⟩ (wantL m (p, q, r))) := hide (by rw [show wantL m (p, q, r) = sysL m q r by simp [wantL, Hp.out]]; exact ri_of_own p2)
        have Hb6 := hide p4
        clear p2 p3 p4 Hp
      rotate_left
      all_goals
        have hz6 := Hb6.out.size
        have hwn : (wantL m (p, q, r)).length = nw := Hwant.out.1
        have hwl : nw ≤ 512 := by have := want_len m (p, q, r); omega
        have Hwn := hide hwn
        clear hwn e0 e1 e2
        have HbQ6 : Hid (Below (Q + 1) w4 w6) := hide (HbA.out.trans (Hb6.out.mono (by omega)))
        have hmm := @run_makeMap Tryz.prog
        have Hmap6 := hide (World.ownsMap_made (H := Unit) w6 Tryz.prog 3 (plainElem Tryz.prog 3))
        have Hb7 : Hid (Below w6.heap.size w6 (w6.alloc (.map #[] 0))) := hide ((Below.refl _ _).alloc (Nat.le_refl _) _)
        have hz7 : (w6.alloc (.map #[] 0)).heap.size = w6.heap.size + 1 := by simp
        have HbQ7 : Hid (Below (Q + 1) w4 (w6.alloc (.map #[] 0))) := hide (HbQ6.out.trans (Hb7.out.mono (by omega)))
        have k17 : (w6.alloc (.map #[] 0)).cell? ⟨Q, 1, none⟩ = some (.slice (some ⟨nb, no, none⟩) L nc2) := (HbQ7.out.cell (by show Q < _; omega)).trans Hk.out.2.1
        have cn7 : (w6.alloc (.map #[] 0)).cell? ⟨nb, no + kk, none⟩ = some (.slice A2 n2 c2) := (HbQ7.out.cell (by show nb < _; omega)).trans Hcn.out
        go_wp2_with fail
        clear hmm k17 cn7
        generalize w6.alloc (.map #[] 0) = w7 at *
        generalize hMM : w6.heap.size = M at *
        have hn2 : n2 ≤ 9223372036854775807 := Nat.le_trans Hri.out.2.1 Hri.out.2.2.1
        have hrl : row.length = n2 := Hri.out.1
        have Hrl := hide hrl
        have Hml : Hid ((metL ats row).length = n2) := hide (by unfold metL; rw [List.length_map]; exact hrl)
        have Hnwn : Hid (n2 = nw) := hide (by rw [← Hml.out, Hperm.out.length_eq, Hwn.out])
        have hn2b : n2 ≤ 512 := by rw [Hnwn.out]; exact hwl
        have Hnd : Hid (metL ats row).Nodup := hide (Hperm.out.nodup_iff.2 (want_nodup m _))
        clear hrl
        go_loopw [92] (fun i wr => ∃ (k n : Nat) (D : DataW Unit), k ≤ n2 ∧ i = .int .i64 k ∧ n ≤ k ∧ Hid (wr.ownsMap Tryz.prog 3 (plainElem Tryz.prog 3) M n D) ∧ Hid (MarkIs D ((metL ats row).take k)) ∧ Hid (Below M w7 wr)) (fun i _ => n2 - (intOf i).toNat)
        case atStart => exact ⟨0, 0, .map [], by omega, rfl, by omega, Hmap6, hide MarkIs.start, hide (Below.refl _ _)⟩
        case round =>
          obtain ⟨k, n, D, hk, rfl, hn, Hmap, Hmk, Hbl⟩ := hrel
          have HbX : Hid (Below (Q + 1) w4 wr) := hide (HbQ7.out.trans (Hbl.out.mono (by omega)))
          have hzr := Hbl.out.size
          have hzM : M < wr.heap.size := by omega
          by_cases hlt : k < n2
          · have hlt' : ((k : Int) < (n2 : Int)) := by omega
            obtain ⟨rb, ro, w', eR, hrb, hrj, crj⟩ := Gr.RI.at_ ((Hri.out.below (HbX.out.mono (by omega)))) hlt
            obtain ⟨i, ⟨p2, q2, r2⟩, rfl, hiL, hati, hsucc⟩ := Hedge.out w' (List.mem_of_getElem? hrj)
            have hiL2 : i < L := by rw [← Hlen.out]; exact hiL
            have hiL' : ¬ ((L : Int) ≤ (i : Int)) := by omega
            have hi0 : ¬ ((i : Int) < 0) := by omega
            obtain ⟨pb2, po2, p3, q3, r3, ePs2, hpb2, hpk2, cp2, cq2, cr2⟩ := RVx.at_ (Hrv.out.below (HbX.out.mono (by omega))) hiL2
            rw [hati] at hpk2
            simp only [Option.some.injEq, Prod.mk.injEq] at hpk2
            obtain ⟨rfl, rfl, rfl⟩ := hpk2
            injection ePs2 with ePs2; injection ePs2 with ePs2 ePs3; subst ePs2; subst ePs3
            subst eR
            have hkeyN : (metL ats row)[k]? = some (keyN (p2, q2, r2)) := by
              unfold metL
              rw [List.getElem?_map, hrj]
              simp [List.getD, hati]
            have Htk := hide (take_snoc hkeyN)
            have Hnew := hide (new_key Hnd.out hkeyN)
            have hkb : 0 ≤ keyN (p2, q2, r2) ∧ keyN (p2, q2, r2) < (totN m : Int) := want_bd (Hperm.out.mem_iff.1 (List.mem_of_getElem? hkeyN))
            have Hkk : Hid ((p = 1 ∧ p2 = 2) ∨ (p = 2 ∧ p2 = 3) ∨ (p = 3 ∧ p2 = 4 ∧ q2 = q) ∨ (p = 4 ∧ p2 = 3)) := hide (by have := succ_kinds Hokx.out hsucc; simpa using this)
            have hbB := (Below.refl wr.heap.size wr).alloc (Nat.le_refl _) (.cells #[.int .i64 p2, .int .i64 q2, .int .i64 r2] 57)
            have HbB := hide hbB
            obtain ⟨d0, d1, d2⟩ := box57 wr p2 q2 r2 57
            have HmapB := hide (Hmap.out.alloc (.cells #[.int .i64 p2, .int .i64 q2, .int .i64 r2] 57))
            have k2r : wr.cell? ⟨Q, 2, none⟩ = some (.slice (some ⟨pb, po, none⟩) L ac2) := (HbX.out.cell (by show Q < _; omega)).trans Hk.out.2.2.1
            have ex1 : (wr.alloc (.cells #[.int .i64 p2, .int .i64 q2, .int .i64 r2] 57)).cell? ⟨Q + 1, 1, none⟩ = some (.int .i64 q) := (HbB.out.cell (by show Q + 1 < _; omega)).trans ((Hbl.out.cell (by show Q + 1 < _; omega)).trans ((Hb7.out.cell (by show Q + 1 < _; omega)).trans ((Hb6.out.cell (by show Q + 1 < _; omega)).trans Hd1.out)))
            have hzB : (wr.alloc (.cells #[.int .i64 p2, .int .i64 q2, .int .i64 r2] 57)).heap.size = wr.heap.size + 1 := by simp
            clear hbB hsucc hati hrj hkeyN hiL
            have hp2 : p2 = 2 ∨ p2 = 3 ∨ (p2 = 4 ∧ q2 = q) := by have := Hkk.out; omega
            rcases hp2 with rfl | rfl | ⟨rfl, rfl⟩
            · have ekey : keyN (2, q2, r2) = r2 := by simp [keyN]
              rw [ekey] at hkb Htk Hnew
              have Hkey : Hid (keyOf Tryz.prog 3 (.int .i64 r2) = some (.int .i64 r2)) := hide (keyOf_int_mk Tryz.underlying3 (WalkArith.wf_i64 (by omega)))
              clear ekey
              go_wp2_with (first
                | (at_mapUpdate; refine wpList_mapUpdate_own _ rfl _ _ _ 64 rfl 3 3 law3 Tryz.underlying64 _ M n D rfl HmapB.out (by unfold maxLen; omega) _ _ _ rfl rfl Hkey.out _ [] (plainElem_int Tryz.underlying3 (WalkArith.wf_i64 (by omega))) ?_; intro w9 hown9 hg9; have e09 : w9.cell? ⟨wr.heap.size, 0, none⟩ = some (.int .i64 2) := (World.grownBy.cell_far hg9 ⟨wr.heap.size, 0, none⟩ (by simp) (fun e => absurd (Option.some.inj e) (by show wr.heap.size ≠ M; omega))).trans d0; have e19 : w9.cell? ⟨wr.heap.size, 1, none⟩ = some (.int .i64 q2) := (World.grownBy.cell_far hg9 ⟨wr.heap.size, 1, none⟩ (by simp) (fun e => absurd (Option.some.inj e) (by show wr.heap.size ≠ M; omega))).trans d1; have ex9 : w9.cell? ⟨Q + 1, 1, none⟩ = some (.int .i64 q) := (World.grownBy.cell_far hg9 ⟨Q + 1, 1, none⟩ (by simp; omega) (fun e => absurd (Option.some.inj e) (by show Q + 1 ≠ M; omega))).trans ex1; have Hg9 := hide hg9; have Hown9 := hide hown9; clear hg9 hown9)
                | go_in)
              have HblM : Hid (Below M w7 w9) := hide ((Hbl.out.trans (HbB.out.mono (by omega))).grown Hg9.out (by omega) (fun z hz => by injection hz with hz; omega))
              go_roundw
              case rel => exact ⟨k + 1, n + 1, _, by omega, by go_num, by omega, Hown9, hide (by rw [Htk.out]; exact Hmk.out.new Hnew.out), HblM⟩
              case measure => simp [intOf]; omega
            · have ekey : keyN (3, q2, r2) = q2 := by simp [keyN]
              rw [ekey] at hkb Htk Hnew
              have Hkey : Hid (keyOf Tryz.prog 3 (.int .i64 q2) = some (.int .i64 q2)) := hide (keyOf_int_mk Tryz.underlying3 (WalkArith.wf_i64 (by omega)))
              clear ekey
              go_wp2_with (first
                | (at_mapUpdate; refine wpList_mapUpdate_own _ rfl _ _ _ 64 rfl 3 3 law3 Tryz.underlying64 _ M n D rfl HmapB.out (by unfold maxLen; omega) _ _ _ rfl rfl Hkey.out _ [] (plainElem_int Tryz.underlying3 (WalkArith.wf_i64 (by omega))) ?_; intro w9 hown9 hg9; have e09 : w9.cell? ⟨wr.heap.size, 0, none⟩ = some (.int .i64 3) := (World.grownBy.cell_far hg9 ⟨wr.heap.size, 0, none⟩ (by simp) (fun e => absurd (Option.some.inj e) (by show wr.heap.size ≠ M; omega))).trans d0; have e19 : w9.cell? ⟨wr.heap.size, 1, none⟩ = some (.int .i64 q2) := (World.grownBy.cell_far hg9 ⟨wr.heap.size, 1, none⟩ (by simp) (fun e => absurd (Option.some.inj e) (by show wr.heap.size ≠ M; omega))).trans d1; have ex9 : w9.cell? ⟨Q + 1, 1, none⟩ = some (.int .i64 q) := (World.grownBy.cell_far hg9 ⟨Q + 1, 1, none⟩ (by simp; omega) (fun e => absurd (Option.some.inj e) (by show Q + 1 ≠ M; omega))).trans ex1; have Hg9 := hide hg9; have Hown9 := hide hown9; clear hg9 hown9)
                | go_in)
              have HblM : Hid (Below M w7 w9) := hide ((Hbl.out.trans (HbB.out.mono (by omega))).grown Hg9.out (by omega) (fun z hz => by injection hz with hz; omega))
              go_roundw
              case rel => exact ⟨k + 1, n + 1, _, by omega, by go_num, by omega, Hown9, hide (by rw [Htk.out]; exact Hmk.out.new Hnew.out), HblM⟩
              case measure => simp [intOf]; omega
            · have ekey : keyN (4, q2, r2) = r2 := by simp [keyN]
              rw [ekey] at hkb Htk Hnew
              have Hkey : Hid (keyOf Tryz.prog 3 (.int .i64 r2) = some (.int .i64 r2)) := hide (keyOf_int_mk Tryz.underlying3 (WalkArith.wf_i64 (by omega)))
              clear ekey
              go_wp2_with (first
                | (at_mapUpdate; refine wpList_mapUpdate_own _ rfl _ _ _ 64 rfl 3 3 law3 Tryz.underlying64 _ M n D rfl HmapB.out (by unfold maxLen; omega) _ _ _ rfl rfl Hkey.out _ [] (plainElem_int Tryz.underlying3 (WalkArith.wf_i64 (by omega))) ?_; intro w9 hown9 hg9; have e09 : w9.cell? ⟨wr.heap.size, 0, none⟩ = some (.int .i64 4) := (World.grownBy.cell_far hg9 ⟨wr.heap.size, 0, none⟩ (by simp) (fun e => absurd (Option.some.inj e) (by show wr.heap.size ≠ M; omega))).trans d0; have e19 : w9.cell? ⟨wr.heap.size, 1, none⟩ = some (.int .i64 q2) := (World.grownBy.cell_far hg9 ⟨wr.heap.size, 1, none⟩ (by simp) (fun e => absurd (Option.some.inj e) (by show wr.heap.size ≠ M; omega))).trans d1; have ex9 : w9.cell? ⟨Q + 1, 1, none⟩ = some (.int .i64 q2) := (World.grownBy.cell_far hg9 ⟨Q + 1, 1, none⟩ (by simp; omega) (fun e => absurd (Option.some.inj e) (by show Q + 1 ≠ M; omega))).trans ex1; have Hg9 := hide hg9; have Hown9 := hide hown9; clear hg9 hown9)
                | go_in)
              have HblM : Hid (Below M w7 w9) := hide ((Hbl.out.trans (HbB.out.mono (by omega))).grown Hg9.out (by omega) (fun z hz => by injection hz with hz; omega))
              go_roundw
              case rel => exact ⟨k + 1, n + 1, _, by omega, by go_num, by omega, Hown9, hide (by rw [Htk.out]; exact Hmk.out.new Hnew.out), HblM⟩
              case measure => simp [intOf]; omega
          · have hlt' : ¬ ((k : Int) < (n2 : Int)) := by omega
            obtain rfl : k = n2 := by omega
            have Hmk2 : Hid (MarkIs D (metL ats row)) := hide (by have h := Hmk.out; rw [List.take_of_length_le (by rw [Hml.out]; exact Nat.le_refl _)] at h; exact h)
            go_wp2_with fail
            go_loopw [134] (fun i wz => ∃ (j : Nat), j ≤ nw ∧ i = .int .i64 j ∧ Hid (wz.ownsMap Tryz.prog 3 (plainElem Tryz.prog 3) M n D) ∧ Hid (Below M w7 wz)) (fun i _ => nw - (intOf i).toNat)
            case atStart => exact ⟨0, by omega, rfl, Hmap, Hbl⟩
            case round =>
              obtain ⟨j, hj, rfl, Hmapj, Hblj⟩ := hrel
              have hzj := Hblj.out.size
              by_cases hlt2 : j < nw
              · have hlt2' : ((j : Int) < (nw : Int)) := by omega
                obtain ⟨rb, ro, w', eR, hrb, hrj, crj⟩ := Gr.RI.at_ (Gr.RI.below Hwant.out ((Hb7.out.mono (by omega)).trans (Hblj.out.mono (by omega)))) hlt2
                subst eR
                have hmem := List.mem_of_getElem? hrj
                have hin : w' ∈ metL ats row := Hperm.out.mem_iff.2 hmem
                have hwb := want_bd hmem
                have Hj := hide hlt2
                have Hkey : Hid (keyOf Tryz.prog 3 (.int .i64 w') = some (.int .i64 w')) := hide (keyOf_int_mk Tryz.underlying3 (WalkArith.wf_i64 (by omega)))
                clear hrj hmem hwb
                go_wp2_with (at_lookup; refine wpList_lookup_own_int _ rfl _ _ 64 rfl 3 3 .i64 law3 Tryz.underlying64 Tryz.underlying3 (zero3A _) M n D rfl Hmapj.out _ _ rfl Hkey.out ?_; intro c hat hwc; obtain rfl := one_yes Hmk2.out.1 hin hat; clear hat hwc)
                go_roundw
                case rel => exact ⟨j + 1, by have := Hj.out; omega, by go_num, Hmapj, Hblj⟩
                case measure => have := Hj.out; simp [intOf]; omega
              · have hlt2' : ¬ ((j : Int) < (nw : Int)) := by omega
                obtain rfl : j = nw := by omega
                have HbXj : Hid (Below (Q + 1) w4 wr) := hide (HbQ7.out.trans (Hblj.out.mono (by omega)))
                have k1j : wr.cell? ⟨Q, 1, none⟩ = some (.slice (some ⟨nb, no, none⟩) L nc2) := (HbXj.out.cell (by show Q < _; omega)).trans Hk.out.2.1
                have cnj : wr.cell? ⟨nb, no + kk, none⟩ = some (.slice A2 k c2) := (HbXj.out.cell (by show nb < _; omega)).trans Hcn.out
                have hms : ((Maps.size D : Int) == (j : Int)) = true := by rw [Hmk2.out.2.2.1, Hml.out, Hnwn.out]; simp
                have hkj : ((k : Int) == (j : Int)) = true := by rw [Hnwn.out]; simp
                go_wp2_with (at_len; refine wpList_len_own _ rfl _ 64 rfl 3 3 Tryz.underlying64 _ M n D rfl Hmapj.out ?_)
                refine (awake_any _).mono ?_
                rintro e y1 ⟨rfl, hby⟩
                go_wp2_with fail
                go_ret
                exact ⟨rfl, by rw [hN]; exact (Hb4.out.trans (HbXj.out.mono (by omega))).trans (hby.mono (by omega))⟩
end Go.Proofs.YtbppdalfcldodaaGreat
