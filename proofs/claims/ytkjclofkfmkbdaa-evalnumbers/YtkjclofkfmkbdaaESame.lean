/- The walk of the statement EvalSame. -/
import Derived.Test.YtkjclofkfmkbdaaEFolds
namespace Go.Proofs.Ytkjclofkfmkbdaa
open Go.RowKit Ex
open Go.Sort (grow)
set_option linter.unusedSimpArgs false
set_option linter.unusedVariables false

/- a value hangs on what is read alone -/
theorem rdK_mem : ∀ {ks : List T} {u : T} {op : Int} {i : Nat}, u ∈ ks → rdT u op i = true → rdK ks op i = true
  | [], u, op, i, h, _ => by simp at h
  | k :: r, u, op, i, h, hr => by
    rcases List.mem_cons.1 h with rfl | h
    · rw [rdK, hr]; rfl
    · rw [rdK, rdK_mem h hr]; simp
theorem rd_val (a b a2 b2 : List Int) : ∀ t, sound t = true → (∀ i, rdT t 3 i = true → a.getD i 0 = a2.getD i 0) → (∀ i, rdT t 4 i = true → b.getD i 0 = b2.getD i 0) → vT a b t = vT a2 b2 t := T.ind (fun op n ks ih hs h3 h4 => by
  have hsk := sound_kids hs
  simp only [T.kids] at hsk
  rw [vT, vT, vK_same (fun u hu => ih u hu (soundK_mem hsk hu) (fun i hi => h3 i (by rw [rdT, rdK_mem hu hi]; simp)) (fun i hi => h4 i (by rw [rdT, rdK_mem hu hi]; simp)))]
  unfold vN
  by_cases ho : op = 3 ∨ op = 4
  · have hn := sound_n (op := op) hs ho rfl
    simp only [T.n] at hn
    have hr : rdT (.mk op n ks) op n.toNat = true := by
      rw [rdT]
      have h1 : (n == (n.toNat : Int)) = true := by simp; omega
      have h2 : (op == op) = true := by simp
      rw [h1, h2]; rfl
    rcases ho with rfl | rfl
    · rw [if_neg (by omega), if_pos rfl, if_neg (by omega), if_pos rfl, h3 _ hr]
    · rw [if_neg (by omega), if_neg (by omega), if_pos rfl, if_neg (by omega), if_neg (by omega), if_pos rfl, h4 _ hr]
  · rw [if_neg (show ¬ op = 3 by omega), if_neg (show ¬ op = 4 by omega), if_neg (show ¬ op = 3 by omega), if_neg (show ¬ op = 4 by omega)])
theorem reads_nil {t : T} {next : Bool} (hm : mayE t = 0) (h : (readsE t next).length = 0) : ∀ i, i < 6 → rdT t (opOf next) i = false := by
  unfold readsE at h
  rw [if_pos hm] at h
  exact (pick_len0 _ 6).1 h
mutual
theorem rd_six : ∀ (t : T) (op : Int) (i : Nat), op = 3 ∨ op = 4 → sound t = true → rdT t op i = true → i < 6
  | .mk o n ks, op, i, ho, hs, hr => by
    rw [rdT, Bool.or_eq_true, Bool.and_eq_true] at hr
    rcases hr with ⟨h1, h2⟩ | h3
    · have h1 : o = op := by simpa using h1
      have h2 : n = (i : Int) := by simpa using h2
      have := sound_n (op := o) hs (by omega) rfl
      simp only [T.n] at this
      omega
    · exact rdK_six ks op i ho (sound_kids hs) h3
theorem rdK_six : ∀ (ks : List T) (op : Int) (i : Nat), op = 3 ∨ op = 4 → soundK ks = true → rdK ks op i = true → i < 6
  | [], op, i, ho, hs, hr => by rw [rdK] at hr; cases hr
  | k :: r, op, i, ho, hs, hr => by
    rw [soundK, Bool.and_eq_true] at hs
    rw [rdK, Bool.or_eq_true] at hr
    rcases hr with h | h
    · exact rd_six k op i ho hs.1 h
    · exact rdK_six r op i ho hs.2 h
end
theorem no_next {t : T} (hm : mayE t = 0) (h : (readsE t true).length = 0) (a b b2 : List Int) : vT a b t = vT a b2 t :=
  rd_val a b a b2 t (may_sound hm) (fun _ _ => rfl) (fun i hi => by
    have h6 := rd_six t 4 i (by omega) (may_sound hm) hi
    have := reads_nil hm h i h6
    rw [show opOf true = 4 from rfl] at this
    rw [this] at hi; cases hi)
theorem val_st {l : List Dom.V} {t : T} {m k : Int} (hs : (sortE l t).2 = 0) (h1 : 0 ≤ m) (h2 : m < Dom.totL l) (h3 : 0 ≤ k) (h4 : k < Dom.totL l) : valE l t m k = valP (vT (Dom.valsL l m) (Dom.valsL l k) t) := by
  unfold valE
  rw [if_pos hs, if_pos (by unfold isSt; simp; omega)]
theorem mod_st (s T : Int) (h1 : 1 ≤ T) (h2 : T ≤ 512) : ∃ m : Int, 0 ≤ m ∧ m < T ∧ IntKind.i64.wrap ((IntKind.u64.wrap s).tmod T) = m := by
  have h0 : 0 ≤ IntKind.u64.wrap s := by rw [IntKind.wrap_u64]; omega
  have h3 : 0 ≤ (IntKind.u64.wrap s).tmod T ∧ (IntKind.u64.wrap s).tmod T < T := by
    rw [Int.tmod_eq_emod_of_nonneg h0]
    exact ⟨Int.emod_nonneg _ (by omega), Int.emod_lt_of_pos _ (by omega)⟩
  exact ⟨_, h3.1, h3.2, by rw [IntKind.wrap_i64]; omega⟩
theorem valP_ok {v : Option Int} {x : Int} (h : valP v = (x, 0)) : v = some x := by
  cases v with
  | none => simp [valP] at h
  | some y => simp [valP] at h; rw [h]
/- what reads nothing and has a value is folded to it -/
theorem fold_const {l : List Dom.V} {t : T} {a b : List Int} {x : Int} (hs : (sortE l t).2 = 0) (h0 : (readsE t false).length = 0) (h1 : (readsE t true).length = 0) (hv : vT a b t = some x) : ∃ o, (o = 1 ∨ o = 2) ∧ foldE l t = .mk o x [] := by
  have hm := (sort_may hs).2
  have hn := (reads_none hm).1 (by omega)
  have hv0 : vT [] [] t = some x := by rw [← noRd_val a b [] [] t hn]; exact hv
  refine ⟨if (tyT l t).1 = 1 then 2 else 1, by split <;> simp, ?_⟩
  unfold foldE
  rw [if_pos hs, foldT_eq, if_pos hn, hv0]
theorem q_rtot {W : World} {B : Nat} {Av : Option Addr} {nv cv : Nat} {lv : List Dom.V} {dd : Nat} {os : Array Obj} (hB : B ≤ W.heap.size) (Ho : Hid (OkV nv cv lv)) (Hrv : Hid (Dom.RV W B Av nv lv)) : Calls Try.prog 28 #[.slice Av nv cv] (grow (redrawn W dd) os) fun e w'' => e = .returned (.int .i64 (Dom.totL lv)) ∧ ∃ p : Regrown, w'' = grow (redrawn W p.d) p.os :=
  Calls.regrown_of (Dom.rtotal_any Av nv cv B lv _ Ho.out.1 Ho.out.2.1 Ho.out.2.2.1 (Nat.le_trans hB (below_regrown W dd os).size) (q_rv hB Hrv) Ho.out.2.2.2)

set_option maxRecDepth 100000 in
set_option maxHeartbeats 4000000 in
theorem esame_any (B : Nat) (Av : Option Addr) (nv cv : Nat) (lv : List Dom.V) (d : Nat) (op n : Int) (A : Option Addr) (len cap : Nat) (t : T) (now next other : Int) (w : World) (ho : OkV nv cv lv) (hB : B ≤ w.heap.size) (hre : RE w B d op n A len cap t) (hrv : Dom.RV w B Av nv lv) :
    Calls Try.prog 8 #[.slice Av nv cv, .agg #[.int .i64 op, .int .i64 n, .slice A len cap], .int .i64 now, .int .i64 next, .int .i64 other] w fun e w' => e = .returned (.bool true) ∧ Below w.heap.size w w' := by
  have hbx : Below w.heap.size w (w.alloc (.cells #[.int .i64 op, .int .i64 n, .slice A len cap] 25)) := (Below.refl _ _).alloc (Nat.le_refl _) _
  have Hre := hide (hre.below (hbx.mono hB))
  have Hrv := hide (hrv.below (hbx.mono hB))
  have Hbox := hide (box_new w op n A len cap 25)
  have hz0 : w.heap.size + 1 ≤ (w.alloc (.cells #[.int .i64 op, .int .i64 n, .slice A len cap] 25)).heap.size := by simp
  have Hbx := hide hbx
  have Ho := hide ho
  clear hre hrv hbx ho
  obtain ⟨h1a, h1b⟩ := vheavy_bd lv
  obtain ⟨h2a, h2b⟩ := heavy_bd t
  obtain ⟨tb0, tb1⟩ := Dom.totL_bd lv
  go_enter Try.func8, Try.ntmps8
  go_wp2_with fail
  generalize w.alloc (.cells #[.int .i64 op, .int .i64 n, .slice A len cap] 25) = W at *
  have hBW : B ≤ W.heap.size := by omega
  have C0 := cell_regrown Hbox.out.1
  have C1 := cell_regrown Hbox.out.2.1
  have C2 := cell_regrown Hbox.out.2.2
  by_cases hh : 0 < Dom.heavyGo 0 lv + heavyE t
  · have hhb : decide (0 < Dom.heavyGo 0 lv + heavyE t) = true := by simp [hh]
    refine wp_region_quiet_below (by kernel_rfl) (by kernel_rfl) ?_
    repeat (go_big_quiet_step (first | (go_at_call 9; exact q_vheavy hBW Ho (by assumption)) | (go_at_call 10; exact q_heavy hBW (by assumption)) | (go_at_call 26; exact q_rmayV hBW Ho (by assumption)) | (go_at_call 28; exact q_rtot hBW Ho (by assumption))))
    refine wpQuiet_nil ?_
    intro w3 hw3
    obtain ⟨p, hp⟩ := hw3
    have hb3 : Below W.heap.size W w3 := by rw [hp]; exact below_regrown W p.d p.os
    have hz3 := hb3.size
    have Hb3 := hide (Hbx.out.trans (hb3.mono (by omega)))
    have Hre3 := hide (Hre.out.below (hb3.mono hBW))
    have Hrv3 := hide (Hrv.out.below (hb3.mono hBW))
    have Hbox3 := hide (Hbox.out.below hb3 (by omega))
    have hz4 : w.heap.size + 1 ≤ w3.heap.size := by omega
    clear hp hb3 C0 C1 C2 Hbx Hre Hrv Hbox hBW hz3 hz0 W
    have hBW : B ≤ w3.heap.size := by omega
    go_wp2_with fail
    refine (awake_any _).mono ?_
    rintro e wz ⟨rfl, hbz⟩
    have Hf := hide (Hb3.out.trans (hbz.mono (by omega)))
    clear hbz
    go_wp2_with fail
    go_ret
    exact ⟨rfl, Hf.out⟩
  · have hhb : decide (0 < Dom.heavyGo 0 lv + heavyE t) = false := by simp; omega
    by_cases hmv : Dom.mayL lv = 0
    · have hmvb : (Dom.mayL lv != 0) = false := by simp [hmv]
      have Hmv := hide hmv
      clear hmv
      by_cases ht : Dom.totL lv < 1
      · have htb : decide (Dom.totL lv < 1) = true := by simp [ht]
        refine wp_region_quiet_below (by kernel_rfl) (by kernel_rfl) ?_
        repeat (go_big_quiet_step (first | (go_at_call 9; exact q_vheavy hBW Ho (by assumption)) | (go_at_call 10; exact q_heavy hBW (by assumption)) | (go_at_call 26; exact q_rmayV hBW Ho (by assumption)) | (go_at_call 28; exact q_rtot hBW Ho (by assumption))))
        refine wpQuiet_nil ?_
        intro w3 hw3
        obtain ⟨p, hp⟩ := hw3
        have hb3 : Below W.heap.size W w3 := by rw [hp]; exact below_regrown W p.d p.os
        have hz3 := hb3.size
        have Hb3 := hide (Hbx.out.trans (hb3.mono (by omega)))
        have Hre3 := hide (Hre.out.below (hb3.mono hBW))
        have Hrv3 := hide (Hrv.out.below (hb3.mono hBW))
        have Hbox3 := hide (Hbox.out.below hb3 (by omega))
        have hz4 : w.heap.size + 1 ≤ w3.heap.size := by omega
        clear hp hb3 C0 C1 C2 Hbx Hre Hrv Hbox hBW hz3 hz0 W
        have hBW : B ≤ w3.heap.size := by omega
        go_wp2_with fail
        refine (awake_any _).mono ?_
        rintro e wz ⟨rfl, hbz⟩
        have Hf := hide (Hb3.out.trans (hbz.mono (by omega)))
        clear hbz
        go_wp2_with fail
        go_ret
        exact ⟨rfl, Hf.out⟩
      · have htb : decide (Dom.totL lv < 1) = false := by simp; omega
        have ht1 : 1 ≤ Dom.totL lv := by omega
        refine wp_region_quiet_below (by kernel_rfl) (by kernel_rfl) ?_
        repeat (go_big_quiet_step (first | (go_at_call 9; exact q_vheavy hBW Ho (by assumption)) | (go_at_call 10; exact q_heavy hBW (by assumption)) | (go_at_call 26; exact q_rmayV hBW Ho (by assumption)) | (go_at_call 28; exact q_rtot hBW Ho (by assumption))))
        refine wpQuiet_nil ?_
        intro w3 hw3
        obtain ⟨p, hp⟩ := hw3
        have hb3 : Below W.heap.size W w3 := by rw [hp]; exact below_regrown W p.d p.os
        have hz3 := hb3.size
        have Hb3 := hide (Hbx.out.trans (hb3.mono (by omega)))
        have Hre3 := hide (Hre.out.below (hb3.mono hBW))
        have Hrv3 := hide (Hrv.out.below (hb3.mono hBW))
        have Hbox3 := hide (Hbox.out.below hb3 (by omega))
        have hz4 : w.heap.size + 1 ≤ w3.heap.size := by omega
        clear hp hb3 C0 C1 C2 Hbx Hre Hrv Hbox hBW hz3 hz0 W
        have hBW : B ≤ w3.heap.size := by omega
        obtain ⟨f0, f1, f2⟩ := Hbox3.out
        go_wp2_with fail
        clear h1a h1b h2a h2b hh hhb f0 f1 f2
        refine (rsort_any B Av nv cv lv d op n A len cap t w3 Ho.out.1 Ho.out.2.1 Ho.out.2.2.1 hBW Hre3.out Hrv3.out Ho.out.2.2.2).mono ?_
        rintro e w4 ⟨rfl, hb4⟩
        have hz5 := hb4.size
        have Hb4 := hide (Hb3.out.trans (hb4.mono (by omega)))
        have Hre4 := hide (Hre3.out.below (hb4.mono hBW))
        have Hrv4 := hide (Hrv3.out.below (hb4.mono hBW))
        have Hbox4 := hide (Hbox3.out.below hb4 (by omega))
        clear hb4 Hb3 Hre3 Hrv3 Hbox3
        obtain ⟨r, hr⟩ : ∃ r, sortE lv t = r := ⟨_, rfl⟩
        have Hr := hide hr
        rw [hr]
        clear hr
        obtain ⟨r1, r2⟩ := r
        simp only
        by_cases hr2 : r2 = 0
        · have hrb : (r2 != 0) = false := by simp [hr2]
          have Hs : Hid ((sortE lv t).2 = 0) := hide (by rw [Hr.out]; exact hr2)
          have Hm := hide (sort_may Hs.out).2
          clear hr2 Hr
          go_wp2_with fail
          refine (Dom.rtotal_any Av nv cv B lv w4 Ho.out.1 Ho.out.2.1 Ho.out.2.2.1 (by omega) Hrv4.out Ho.out.2.2.2).mono ?_
          rintro e w5 ⟨rfl, hb5⟩
          have hz6 := hb5.size
          have Hb5 := hide (Hb4.out.trans (hb5.mono (by omega)))
          have Hre5 := hide (Hre4.out.below (hb5.mono (by omega)))
          have Hrv5 := hide (Hrv4.out.below (hb5.mono (by omega)))
          have Hbox5 := hide (Hbox4.out.below hb5 (by omega))
          clear hb5 Hb4 Hre4 Hrv4 Hbox4
          obtain ⟨m1, m1a, m1b, hm1⟩ := mod_st now (Dom.totL lv) ht1 tb1
          obtain ⟨m2, m2a, m2b, hm2⟩ := mod_st next (Dom.totL lv) ht1 tb1
          obtain ⟨m3, m3a, m3b, hm3⟩ := mod_st other (Dom.totL lv) ht1 tb1
          have hwT : IntKind.u64.wrap (Dom.totL lv) = Dom.totL lv := by rw [IntKind.wrap_u64]; omega
          have hnz : ¬ Dom.totL lv = 0 := by omega
          have hnzb : (Dom.totL lv == 0) = false := by simp [hnz]
          go_wp2_with fail
          go_quiet (fail)
          clear hm1 hm2 hm3 hwT hnz hnzb
          obtain ⟨f0, f1, f2⟩ := Hbox5.out
          have hzq : (w5.drewN nq).heap.size = w5.heap.size := rfl
          have Hb6 := hide (below_drewN Hb5.out nq)
          have Hre6 := hide (Hre5.out.below (below_drewN (Below.refl B w5) nq))
          have Hrv6 := hide (Hrv5.out.below (below_drewN (Below.refl B w5) nq))
          have Hbox6 := hide (Hbox5.out.below (below_drewN (Below.refl w5.heap.size w5) nq) (by omega))
          clear f0 f1 f2 Hb5 Hre5 Hrv5 Hbox5
          generalize w5.drewN nq = w6 at *
          obtain ⟨f0, f1, f2⟩ := Hbox6.out
          go_wp2_with fail
          refine (dval_any B Av nv cv lv d op n A len cap t m1 m2 w6 Ho.out.1 Ho.out.2.1 Ho.out.2.2.1 (by omega) Hre6.out Hrv6.out Ho.out.2.2.2).mono ?_
          rintro e w7 ⟨rfl, hb7⟩
          have hz7 := hb7.size
          have Hb7 := hide (Hb6.out.trans (hb7.mono (by omega)))
          have Hre7 := hide (Hre6.out.below (hb7.mono (by omega)))
          have Hrv7 := hide (Hrv6.out.below (hb7.mono (by omega)))
          have Hbox7 := hide (Hbox6.out.below hb7 (by omega))
          clear hb7 f0 f1 f2 Hb6 Hre6 Hrv6 Hbox6
          have Hva := hide (val_st Hs.out m1a m1b m2a m2b)
          have Hvb := hide (val_st Hs.out m1a m1b m3a m3b)
          generalize valE lv t m1 m2 = ra at *
          obtain ⟨ra1, ra2⟩ := ra
          simp only
          obtain ⟨f0, f1, f2⟩ := Hbox7.out
          go_wp2_with fail
          refine (dval_any B Av nv cv lv d op n A len cap t m1 m3 w7 Ho.out.1 Ho.out.2.1 Ho.out.2.2.1 (by omega) Hre7.out Hrv7.out Ho.out.2.2.2).mono ?_
          rintro e w8 ⟨rfl, hb8⟩
          have hz8 := hb8.size
          have Hb8 := hide (Hb7.out.trans (hb8.mono (by omega)))
          have Hre8 := hide (Hre7.out.below (hb8.mono (by omega)))
          have Hrv8 := hide (Hrv7.out.below (hb8.mono (by omega)))
          have Hbox8 := hide (Hbox7.out.below hb8 (by omega))
          clear hb8 f0 f1 f2 Hb7 Hre7 Hrv7 Hbox7
          generalize valE lv t m1 m3 = rb at *
          obtain ⟨rb1, rb2⟩ := rb
          simp only
          obtain ⟨f0, f1, f2⟩ := Hbox8.out
          go_wp2_with fail
          refine (reads_any B d op n A len cap t true w8 (by omega) Hre8.out).mono ?_
          rintro e w9 ⟨O, rm, rc, rfl, _, hrm, hb9⟩
          have hz9 := hb9.size
          have Hb9 := hide (Hb8.out.trans (hb9.mono (by omega)))
          have Hre9 := hide (Hre8.out.below (hb9.mono (by omega)))
          have Hrv9 := hide (Hrv8.out.below (hb9.mono (by omega)))
          have Hbox9 := hide (Hbox8.out.below hb9 (by omega))
          have Hrm := hide hrm
          clear hb9 f0 f1 f2 Hb8 Hre8 Hrv8 Hbox8 hrm
          by_cases hq : 0 < rm
          · have hqb : decide ((0 : Int) < (rm : Int)) = true := by simp; omega
            have hqc : decide (0 < rm) = true := by simp; omega
            go_wp2_with fail
            refine (awake_any _).mono ?_
            rintro e wz ⟨rfl, hbz⟩
            have Hf := hide (Hb9.out.trans (hbz.mono (by omega)))
            clear hbz
            go_wp2_with fail
            go_ret
            exact ⟨rfl, Hf.out⟩
          · have hqb : decide ((0 : Int) < (rm : Int)) = false := by simp; omega
            have hqc : decide (0 < rm) = false := by simp; omega
            have Hr0 : Hid ((readsE t true).length = 0) := hide (by rw [Hrm.out]; omega)
            have heq : (ra1, ra2) = (rb1, rb2) := by rw [Hva.out, Hvb.out, no_next Hm.out Hr0.out _ _ (Dom.valsL lv m3)]
            injection heq with e1 e2
            subst e1; subst e2
            clear hq Hrm Hvb
            obtain ⟨f0, f1, f2⟩ := Hbox9.out
            go_wp2_with fail
            refine (dfold_any B Av nv cv lv d op n A len cap t w9 Ho.out.1 Ho.out.2.1 Ho.out.2.2.1 (by omega) Hre9.out Hrv9.out Ho.out.2.2.2 Hm.out).mono ?_
            rintro e w10 ⟨⟨fo, fm, fO, fk, fc⟩, fd, rfl, hrf, hb10⟩
            simp only at hrf ⊢
            have hz10 := hb10.size
            have hbF := (Below.refl w10.heap.size w10).alloc (Nat.le_refl _) (.cells #[.int .i64 fo, .int .i64 fm, .slice fO fk fc] 25)
            have Hb10 := hide ((Hb9.out.trans (hb10.mono (by omega))).trans (hbF.mono (by omega)))
            have Hre10 := hide (((Hre9.out.below (hb10.mono (by omega)))).below (hbF.mono (by omega)))
            have Hbox10 := hide ((Hbox9.out.below hb10 (by omega)).below hbF (by omega))
            have HboxF := hide (box_new w10 fo fm fO fk fc 25)
            have hzF : w10.heap.size + 1 ≤ (w10.alloc (.cells #[.int .i64 fo, .int .i64 fm, .slice fO fk fc] 25)).heap.size := by simp
            have Hrf := hide hrf
            have hfmx : fc ≤ 2 ^ 63 - 1 := by cases fd with
              | zero => exact absurd hrf id
              | succ fd => exact hrf.2.2.2.2.1
            have hfk : fk ≤ fc := by cases fd with
              | zero => exact absurd hrf id
              | succ fd => exact hrf.2.2.2.1
            clear hb10 f0 f1 f2 Hb9 Hre9 Hrv9 Hbox9 hbF hrf
            obtain ⟨f0, f1, f2⟩ := Hbox10.out
            obtain ⟨g0, g1, g2⟩ := HboxF.out
            go_wp2_with fail
            generalize w10.alloc (.cells #[.int .i64 fo, .int .i64 fm, .slice fO fk fc] 25) = w11 at *
            generalize hN : w10.heap.size = N4 at *
            clear hN
            refine (reads_any B d op n A len cap t false w11 (by omega) Hre10.out).mono ?_
            rintro e w12 ⟨O2, rn, rc2, rfl, _, hrn, hb12⟩
            have hz12 := hb12.size
            have Hb12 := hide (Hb10.out.trans (hb12.mono (by omega)))
            have HboxG := hide (HboxF.out.below hb12 (by omega))
            have Hrn := hide hrn
            clear hb12 f0 f1 f2 g0 g1 g2 Hb10 Hre10 Hbox10 HboxF hrn
            by_cases hq : 0 < rn
            · have hpb : decide ((0 : Int) < (rn : Int)) = true := by simp; omega
              have hpc : decide (0 < rn) = true := by simp; omega
              go_wp2_with fail
              refine (awake_any _).mono ?_
              rintro e wz ⟨rfl, hbz⟩
              have Hf := hide (Hb12.out.trans (hbz.mono (by omega)))
              clear hbz
              go_wp2_with fail
              go_ret
              exact ⟨rfl, Hf.out⟩
            · have hpb : decide ((0 : Int) < (rn : Int)) = false := by simp; omega
              have hpc : decide (0 < rn) = false := by simp; omega
              by_cases hx : ra2 = 0
              · have hxb : (ra2 != 0) = false := by simp [hx]
                obtain ⟨o, ho, hfo⟩ := fold_const Hs.out (by rw [Hrn.out]; omega) Hr0.out (valP_ok (by rw [← Hva.out, hx]))
                have hrr := Hrf.out
                rw [hfo] at hrr
                have hk0 : o = fo ∧ ra1 = fm ∧ 0 = fk := by cases fd with
                  | zero => exact absurd hrr id
                  | succ fd => exact ⟨hrr.1, hrr.2.1, hrr.2.2.1⟩
                obtain ⟨rfl, rfl, rfl⟩ := hk0
                clear hrr hfo hx Hrf Hva hq Hrn
                obtain ⟨g0, g1, g2⟩ := HboxG.out
                rcases ho with rfl | rfl
                · go_wp2_with fail
                  refine (awake_any _).mono ?_
                  rintro e wz ⟨rfl, hbz⟩
                  have Hf := hide (Hb12.out.trans (hbz.mono (by omega)))
                  clear hbz
                  go_wp2_with fail
                  go_ret
                  exact ⟨rfl, Hf.out⟩
                · go_wp2_with fail
                  refine (awake_any _).mono ?_
                  rintro e wz ⟨rfl, hbz⟩
                  have Hf := hide (Hb12.out.trans (hbz.mono (by omega)))
                  clear hbz
                  go_wp2_with fail
                  go_ret
                  exact ⟨rfl, Hf.out⟩
              · have hxb : (ra2 != 0) = true := by simp [hx]
                clear hx
                go_wp2_with fail
                refine (awake_any _).mono ?_
                rintro e wz ⟨rfl, hbz⟩
                have Hf := hide (Hb12.out.trans (hbz.mono (by omega)))
                clear hbz
                go_wp2_with fail
                go_ret
                exact ⟨rfl, Hf.out⟩
        · have hrb : (r2 != 0) = true := by simp [hr2]
          clear hr2
          go_wp2_with fail
          refine (awake_any _).mono ?_
          rintro e wz ⟨rfl, hbz⟩
          have Hf := hide (Hb4.out.trans (hbz.mono (by omega)))
          clear hbz
          go_wp2_with fail
          go_ret
          exact ⟨rfl, Hf.out⟩
    · have hmvb : (Dom.mayL lv != 0) = true := by simp [hmv]
      clear hmv
      refine wp_region_quiet_below (by kernel_rfl) (by kernel_rfl) ?_
      repeat (go_big_quiet_step (first | (go_at_call 9; exact q_vheavy hBW Ho (by assumption)) | (go_at_call 10; exact q_heavy hBW (by assumption)) | (go_at_call 26; exact q_rmayV hBW Ho (by assumption)) | (go_at_call 28; exact q_rtot hBW Ho (by assumption))))
      refine wpQuiet_nil ?_
      intro w3 hw3
      obtain ⟨p, hp⟩ := hw3
      have hb3 : Below W.heap.size W w3 := by rw [hp]; exact below_regrown W p.d p.os
      have hz3 := hb3.size
      have Hb3 := hide (Hbx.out.trans (hb3.mono (by omega)))
      have Hre3 := hide (Hre.out.below (hb3.mono hBW))
      have Hrv3 := hide (Hrv.out.below (hb3.mono hBW))
      have Hbox3 := hide (Hbox.out.below hb3 (by omega))
      have hz4 : w.heap.size + 1 ≤ w3.heap.size := by omega
      clear hp hb3 C0 C1 C2 Hbx Hre Hrv Hbox hBW hz3 hz0 W
      have hBW : B ≤ w3.heap.size := by omega
      go_wp2_with fail
      refine (awake_any _).mono ?_
      rintro e wz ⟨rfl, hbz⟩
      have Hf := hide (Hb3.out.trans (hbz.mono (by omega)))
      clear hbz
      go_wp2_with fail
      go_ret
      exact ⟨rfl, Hf.out⟩
end Go.Proofs.Ytkjclofkfmkbdaa
