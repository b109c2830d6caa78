/- The walk of the statement SortNeeds. -/
import Derived.Test.YtdjllpejonfpgaaSAwake
namespace Go.Proofs.Ytdjllpejonfpgaa
open Go.RowKit Ex
open Go.Sort (grow)
set_option linter.unusedSimpArgs false
set_option linter.unusedVariables false

theorem next_all (l : List Dom.V) : ∀ xs, nextBad l true true xs = false
  | [] => rfl
  | x :: r => by rw [nextBad, next_all l r]; cases envAt l x <;> rfl
theorem now_all (l : List Dom.V) : ∀ xs, nowBad l true xs = false
  | [] => rfl
  | x :: r => by rw [nowBad, now_all l r]; cases envAt l x <;> rfl
theorem need_zero {l : List Dom.V} {t : T} {want : Int} {now env sys : Bool} (h : needE l t want now env sys = 0) : (sortE l t).2 = 0 ∧ (sortE l t).1 = want ∧ nextBad l env sys (readsE t true) = false ∧ nowBad l now (readsE t false) = false := by
  unfold needE at h
  by_cases h2 : (sortE l t).2 = 0
  · rw [if_pos h2] at h
    by_cases h1 : (sortE l t).1 = want
    · rw [if_pos h1] at h
      cases hn : nextBad l env sys (readsE t true)
      · rw [hn] at h
        cases hw : nowBad l now (readsE t false)
        · exact ⟨h2, h1, rfl, rfl⟩
        · rw [hw] at h; simp at h
      · rw [hn] at h; simp at h
    · rw [if_neg h1] at h; omega
  · rw [if_neg h2] at h; exact absurd h h2
theorem need_full {l : List Dom.V} {t : T} {want : Int} (h2 : (sortE l t).2 = 0) (h1 : (sortE l t).1 = want) : needE l t want true true true = 0 := by
  unfold needE
  rw [if_pos h2, if_pos h1, next_all, now_all]; rfl
theorem need_swap {l : List Dom.V} {t : T} {want : Int} {now env sys : Bool} (h : readsE t true = []) (e s : Bool) : needE l t want now e s = needE l t want now env sys := by
  unfold needE; rw [h]; rfl
theorem nextBad_at {l : List Dom.V} {env sys : Bool} {x : Int} {r : List Int} {j : Nat} {xs : List Int} (h : nextBad l env sys (xs.drop j) = false) (hx : xs[j]? = some x) : (envAt l x && !env || !envAt l x && !sys) = false ∧ nextBad l env sys (xs.drop (j + 1)) = false := by
  rw [drop_at hx, nextBad, Bool.or_eq_false_iff] at h; exact h
theorem nowBad_at {l : List Dom.V} {now : Bool} {x : Int} {j : Nat} {xs : List Int} (h : nowBad l now (xs.drop j) = false) (hx : xs[j]? = some x) : (!envAt l x && !now) = false ∧ nowBad l now (xs.drop (j + 1)) = false := by
  rw [drop_at hx, nowBad, Bool.or_eq_false_iff] at h; exact h

set_option maxRecDepth 100000 in
set_option maxHeartbeats 4000000 in
theorem sneeds_any (B : Nat) (Av : Option Addr) (nv cv : Nat) (lv : List Dom.V) (d : Nat) (op n : Int) (A : Option Addr) (len cap : Nat) (t : T) (want : Int) (now env sys : Bool) (w : World) (ho : OkV nv cv lv) (hB : B ≤ w.heap.size) (hre : RE w B d op n A len cap t) (hrv : Dom.RV w B Av nv lv) :
    Calls Try.prog 5 #[.slice Av nv cv, .agg #[.int .i64 op, .int .i64 n, .slice A len cap], .int .i64 want, .bool now, .bool env, .bool sys] w fun e w' => e = .returned (.bool true) ∧ Below w.heap.size w w' := by
  have hbx : Below w.heap.size w (w.alloc (.cells #[.int .i64 op, .int .i64 n, .slice A len cap] 25)) := (Below.refl _ _).alloc (Nat.le_refl _) _
  have Hre := hide (hre.below (hbx.mono hB))
  have Hrv := hide (hrv.below (hbx.mono hB))
  have Hbox := hide (box_new w op n A len cap 25)
  have hz0 : w.heap.size + 1 ≤ (w.alloc (.cells #[.int .i64 op, .int .i64 n, .slice A len cap] 25)).heap.size := by simp
  have Hbx := hide hbx
  have Ho := hide ho
  clear hre hrv hbx ho
  obtain ⟨h1a, h1b⟩ := vheavy_bd lv
  obtain ⟨h2a, h2b⟩ := heavy_bd t
  go_enter Try.func5, Try.ntmps5
  go_wp2_with fail
  generalize w.alloc (.cells #[.int .i64 op, .int .i64 n, .slice A len cap] 25) = W at *
  have hBW : B ≤ W.heap.size := by omega
  have C0 := cell_regrown Hbox.out.1
  have C1 := cell_regrown Hbox.out.2.1
  have C2 := cell_regrown Hbox.out.2.2
  refine wp_region_quiet_below (by kernel_rfl) (by kernel_rfl) ?_
  repeat (go_big_quiet_step (first | (go_at_call 7; exact q_vheavy hBW Ho (by assumption)) | (go_at_call 8; exact q_heavy hBW (by assumption))))
  refine wpQuiet_nil ?_
  intro w3 hw3
  obtain ⟨p, hp⟩ := hw3
  have hb3 : Below W.heap.size W w3 := by rw [hp]; exact below_regrown W p.d p.os
  have hz3 := hb3.size
  have Hb3 := hide (Hbx.out.trans (hb3.mono (by omega)))
  have Hre3 := hide (Hre.out.below (hb3.mono hBW))
  have Hrv3 := hide (Hrv.out.below (hb3.mono hBW))
  have Hbox3 := hide (Hbox.out.below hb3 (by omega))
  have hz4 : w.heap.size + 1 ≤ w3.heap.size := by omega
  clear hp hb3 C0 C1 C2 Hbx Hre Hrv Hbox hBW hz3 hz0 W
  have hBW : B ≤ w3.heap.size := by omega
  by_cases hh : 0 < Dom.heavyGo 0 lv + heavyE t
  · have hhb : decide (0 < Dom.heavyGo 0 lv + heavyE t) = true := by simp [hh]
    clear Hre3 Hrv3 Hbox3
    go_wp2_with fail
    refine (awake_any _).mono ?_
    rintro e w4 ⟨rfl, hb4⟩
    have Hf := hide (Hb3.out.trans (hb4.mono (by omega)))
    clear hb4
    go_wp2_with fail
    go_ret
    exact ⟨rfl, Hf.out⟩
  · have hhb : decide (0 < Dom.heavyGo 0 lv + heavyE t) = false := by simp; omega
    obtain ⟨f0, f1, f2⟩ := Hbox3.out
    go_wp2_with fail
    clear h1a h1b h2a h2b hh hhb
    refine (needs_any B Av nv cv lv d op n A len cap t want now env sys w3 Ho.out.1 Ho.out.2.1 Ho.out.2.2.1 hBW Hre3.out Hrv3.out Ho.out.2.2.2).mono ?_
    rintro e w4 ⟨rfl, hb4⟩
    have hz5 := hb4.size
    have Hb4 := hide (Hb3.out.trans (hb4.mono (by omega)))
    have Hre4 := hide (Hre3.out.below (hb4.mono hBW))
    have Hrv4 := hide (Hrv3.out.below (hb4.mono hBW))
    have Hbox4 := hide (Hbox3.out.below hb4 (by omega))
    have hnv9 : nv ≤ 2 ^ 63 - 1 := Ho.out.1
    clear hb4 f0 f1 f2 Hb3 Hre3 Hrv3 Hbox3
    by_cases ha : needE lv t want now env sys = 0
    · have hab : (needE lv t want now env sys == 0) = true := by simp [ha]
      obtain ⟨q2, q1, q3, q4⟩ := need_zero ha
      have Hful := hide (need_full q2 q1)
      have Hq3 := hide q3
      have Hq4 := hide q4
      have Hin : Hid (∀ (next : Bool) (x : Int), x ∈ readsE t next → ∃ i : Nat, i < 6 ∧ i < nv ∧ x = (i : Int)) := hide (fun next x hx => by
        obtain ⟨i, h1, h2, h3⟩ := sort_reads q2 hx
        exact ⟨i, h1, by have := Hrv4.out.1; omega, h3⟩)
      clear ha q1 q2 q3 q4
      obtain ⟨f0, f1, f2⟩ := Hbox4.out
      go_wp2_with fail
      refine (needs_any B Av nv cv lv d op n A len cap t want true true true w4 Ho.out.1 Ho.out.2.1 Ho.out.2.2.1 (by omega) Hre4.out Hrv4.out Ho.out.2.2.2).mono ?_
      rintro e w5 ⟨rfl, hb5⟩
      rw [Hful.out]
      have hz6 := hb5.size
      have Hb5 := hide (Hb4.out.trans (hb5.mono (by omega)))
      have Hre5 := hide (Hre4.out.below (hb5.mono (by omega)))
      have Hrv5 := hide (Hrv4.out.below (hb5.mono (by omega)))
      have Hbox5 := hide (Hbox4.out.below hb5 (by omega))
      clear hb5 f0 f1 f2 Hb4 Hre4 Hrv4 Hbox4 Hful
      obtain ⟨f0, f1, f2⟩ := Hbox5.out
      go_wp2_with fail
      clear f0 f1 f2
      refine (reads_any B d op n A len cap t true w5 (by omega) Hre5.out).mono ?_
      rintro e w6 ⟨O, m, c, rfl, hown, hm, hb6⟩
      have hz7 := hb6.size
      have Hb6 := hide (Hb5.out.trans (hb6.mono (by omega)))
      have Hre6 := hide (Hre5.out.below (hb6.mono (by omega)))
      have Hrv6 := hide (Hrv5.out.below (hb6.mono (by omega)))
      have Hbox6 := hide (Hbox5.out.below hb6 (by omega))
      have Hri := hide (own_ri hown)
      have hm6 : m ≤ 6 := by rw [← hm]; exact readsE_six _ _
      have Hm := hide hm
      clear hb6 hown hm Hb5 Hre5 Hrv5 Hbox5
      go_wp2_with fail
      go_loopw [42] (fun i wr => ∃ j : Nat, j ≤ m ∧ i = .int .i64 j ∧ Hid (nextBad lv env sys ((readsE t true).drop j) = false) ∧ wr = w6) (fun i _ => m - (intOf i).toNat)
      case atStart => exact ⟨0, by omega, rfl, Hq3, rfl⟩
      case round =>
        obtain ⟨j, hj, rfl, HB, rfl⟩ := hrel
        by_cases hjl : j < m
        · have hjl' : ((j : Int) < (m : Int)) := by omega
          obtain ⟨bb, bo, x, rfl, hbb, hx, cx⟩ := Hri.out.at_ hjl
          obtain ⟨q, hq6, hqn, rfl⟩ := Hin.out true x (List.mem_of_getElem? hx)
          obtain ⟨vb, vo, v, rfl, hvb, hvq, g0, g1, g2, g3, g4⟩ := Hrv6.out.at_ (k := q) hqn
          have hqn' : (q : Int) < (nv : Int) := by omega
          have p1 : decide ((nv : Int) ≤ (q : Int)) = false := by rw [decide_eq_false_iff_not]; omega
          have p1' : decide (nv ≤ q) = false := by rw [decide_eq_false_iff_not]; omega
          have p2 : decide ((q : Int) < 0) = false := by rw [decide_eq_false_iff_not]; omega
          obtain ⟨hbad, hnext⟩ := nextBad_at (r := []) HB.out hx
          have hev : envAt lv (q : Int) = v.env := by unfold envAt; simp [hvq]
          rw [hev] at hbad
          have Hnext := hide hnext
          clear hx hvq g0 g2 g3 g4 HB hnext hev
          cases hve : v.env
          · rw [hve] at g1 hbad
            cases sys
            · simp at hbad
            · clear hbad
              go_wp2_with fail
              go_roundw
              case rel => exact ⟨j + 1, by omega, by go_num, Hnext, by first | rfl | trivial⟩
              case measure => simp [intOf]; omega
          · rw [hve] at g1 hbad
            cases env
            · simp at hbad
            · clear hbad
              go_wp2_with fail
              go_roundw
              case rel => exact ⟨j + 1, by omega, by go_num, Hnext, by first | rfl | trivial⟩
              case measure => simp [intOf]; omega
        · have hjl' : ¬ ((j : Int) < (m : Int)) := by omega
          clear HB
          obtain ⟨f0, f1, f2⟩ := Hbox6.out
          obtain ⟨wA, rfl⟩ : ∃ wA, wA = wr := ⟨_, rfl⟩
          go_wp2_with fail
          clear f0 f1 f2
          refine (reads_any B d op n A len cap t false wA (by omega) Hre6.out).mono ?_
          rintro e w7 ⟨O2, m2, c2, rfl, hown, hm, hb7⟩
          have hz8 := hb7.size
          have Hb7 := hide (Hb6.out.trans (hb7.mono (by omega)))
          have Hre7 := hide (Hre6.out.below (hb7.mono (by omega)))
          have Hrv7 := hide (Hrv6.out.below (hb7.mono (by omega)))
          have Hbox7 := hide (Hbox6.out.below hb7 (by omega))
          have Hri2 := hide (own_ri hown)
          have hm62 : m2 ≤ 6 := by rw [← hm]; exact readsE_six _ _
          clear hb7 hown hm Hb6 Hre6 Hrv6 Hbox6 Hri
          go_wp2_with fail
          go_loopw [81] (fun i wr => ∃ j : Nat, j ≤ m2 ∧ i = .int .i64 j ∧ Hid (nowBad lv now ((readsE t false).drop j) = false) ∧ wr = w7) (fun i _ => m2 - (intOf i).toNat)
          case atStart => exact ⟨0, by omega, rfl, Hq4, rfl⟩
          case round =>
            obtain ⟨j2, hj2, rfl, HB, rfl⟩ := hrel
            by_cases hjl2 : j2 < m2
            · have hjl2' : ((j2 : Int) < (m2 : Int)) := by omega
              obtain ⟨bb, bo, x, rfl, hbb, hx, cx⟩ := Hri2.out.at_ hjl2
              obtain ⟨q, hq6, hqn, rfl⟩ := Hin.out false x (List.mem_of_getElem? hx)
              obtain ⟨vb, vo, v, rfl, hvb, hvq, g0, g1, g2, g3, g4⟩ := Hrv7.out.at_ (k := q) hqn
              have hqn' : (q : Int) < (nv : Int) := by omega
              have p1 : decide ((nv : Int) ≤ (q : Int)) = false := by rw [decide_eq_false_iff_not]; omega
              have p1' : decide (nv ≤ q) = false := by rw [decide_eq_false_iff_not]; omega
              have p2 : decide ((q : Int) < 0) = false := by rw [decide_eq_false_iff_not]; omega
              obtain ⟨hbad, hnext⟩ := nowBad_at HB.out hx
              have hev : envAt lv (q : Int) = v.env := by unfold envAt; simp [hvq]
              rw [hev] at hbad
              have Hnext := hide hnext
              clear hx hvq g0 g2 g3 g4 HB hnext hev
              cases hve : v.env
              · rw [hve] at g1 hbad
                cases now
                · simp at hbad
                · clear hbad
                  go_wp2_with fail
                  go_roundw
                  case rel => exact ⟨j2 + 1, by omega, by go_num, Hnext, by first | rfl | trivial⟩
                  case measure => simp [intOf]; omega
              · rw [hve] at g1
                clear hbad
                go_wp2_with fail
                go_roundw
                case rel => exact ⟨j2 + 1, by omega, by go_num, Hnext, by first | rfl | trivial⟩
                case measure => simp [intOf]; omega
            · have hjl2' : ¬ ((j2 : Int) < (m2 : Int)) := by omega
              clear HB Hri2 Hq3 Hq4 Hin hab
              obtain ⟨wB, rfl⟩ : ∃ wB, wB = wr := ⟨_, rfl⟩
              obtain ⟨f0, f1, f2⟩ := Hbox7.out
              go_wp2_with fail
              clear f0 f1 f2
              refine (reads_any B d op n A len cap t true wB (by omega) Hre7.out).mono ?_
              rintro e wR ⟨O9, m9, c9, rfl, hown, hm9, hbR⟩
              have hzR := hbR.size
              have HbR := hide (Hb7.out.trans (hbR.mono (by omega)))
              have HreR := hide (Hre7.out.below (hbR.mono (by omega)))
              have HrvR := hide (Hrv7.out.below (hbR.mono (by omega)))
              obtain ⟨f0, f1, f2⟩ := Hbox7.out.below hbR (by omega)
              have hm96 : m9 ≤ 6 := by rw [← hm9]; exact readsE_six _ _
              clear hbR hown Hb7 Hre7 Hrv7 Hbox7
              by_cases hm0 : m9 = 0
              · have hmb : ((m9 : Int) == 0) = true := by simp [hm0]
                have hnil : readsE t true = [] := List.length_eq_zero_iff.1 (by rw [hm9, hm0])
                have Hsw := hide (need_swap (l := lv) (want := want) (now := now) (env := env) (sys := sys) hnil (!env) (!sys))
                have hnn : (needE lv t want now env sys != needE lv t want now env sys) = false := by simp
                clear hm0 hnil hm9
                go_wp2_with fail
                refine (needs_any B Av nv cv lv d op n A len cap t want now (!env) (!sys) wR Ho.out.1 Ho.out.2.1 Ho.out.2.2.1 (by omega) HreR.out HrvR.out Ho.out.2.2.2).mono ?_
                rintro e wS ⟨rfl, hbS⟩
                rw [Hsw.out]
                have hzS := hbS.size
                have HbS := hide (HbR.out.trans (hbS.mono (by omega)))
                clear hbS f0 f1 f2
                go_wp2_with fail
                refine (awake_any _).mono ?_
                rintro e wT ⟨rfl, hbT⟩
                have Hf := hide (HbS.out.trans (hbT.mono (by omega)))
                clear hbT
                go_wp2_with fail
                go_ret
                exact ⟨rfl, Hf.out⟩
              · have hmb : ((m9 : Int) == 0) = false := by rw [beq_eq_false_iff_ne]; omega
                clear hm9
                go_wp2_with fail
                refine (awake_any _).mono ?_
                rintro e wT ⟨rfl, hbT⟩
                have Hf := hide (HbR.out.trans (hbT.mono (by omega)))
                clear hbT
                go_wp2_with fail
                go_ret
                exact ⟨rfl, Hf.out⟩
    · have hab : (needE lv t want now env sys == 0) = false := by simp [ha]
      clear ha
      obtain ⟨f0, f1, f2⟩ := Hbox4.out
      go_wp2_with fail
      clear f0 f1 f2
      refine (reads_any B d op n A len cap t true w4 (by omega) Hre4.out).mono ?_
      rintro e wR ⟨O9, m9, c9, rfl, hown, hm9, hbR⟩
      have hzR := hbR.size
      have HbR := hide (Hb4.out.trans (hbR.mono (by omega)))
      have HreR := hide (Hre4.out.below (hbR.mono (by omega)))
      have HrvR := hide (Hrv4.out.below (hbR.mono (by omega)))
      obtain ⟨f0, f1, f2⟩ := Hbox4.out.below hbR (by omega)
      have hm96 : m9 ≤ 6 := by rw [← hm9]; exact readsE_six _ _
      clear hbR hown Hb4 Hre4 Hrv4 Hbox4
      by_cases hm0 : m9 = 0
      · have hmb : ((m9 : Int) == 0) = true := by simp [hm0]
        have hnil : readsE t true = [] := List.length_eq_zero_iff.1 (by rw [hm9, hm0])
        have Hsw := hide (need_swap (l := lv) (want := want) (now := now) (env := env) (sys := sys) hnil (!env) (!sys))
        have hnn : (needE lv t want now env sys != needE lv t want now env sys) = false := by simp
        clear hm0 hnil hm9
        go_wp2_with fail
        refine (needs_any B Av nv cv lv d op n A len cap t want now (!env) (!sys) wR Ho.out.1 Ho.out.2.1 Ho.out.2.2.1 (by omega) HreR.out HrvR.out Ho.out.2.2.2).mono ?_
        rintro e wS ⟨rfl, hbS⟩
        rw [Hsw.out]
        have hzS := hbS.size
        have HbS := hide (HbR.out.trans (hbS.mono (by omega)))
        clear hbS f0 f1 f2
        go_wp2_with fail
        refine (awake_any _).mono ?_
        rintro e wT ⟨rfl, hbT⟩
        have Hf := hide (HbS.out.trans (hbT.mono (by omega)))
        clear hbT
        go_wp2_with fail
        go_ret
        exact ⟨rfl, Hf.out⟩
      · have hmb : ((m9 : Int) == 0) = false := by rw [beq_eq_false_iff_ne]; omega
        clear hm9
        go_wp2_with fail
        refine (awake_any _).mono ?_
        rintro e wT ⟨rfl, hbT⟩
        have Hf := hide (HbR.out.trans (hbT.mono (by omega)))
        clear hbT
        go_wp2_with fail
        go_ret
        exact ⟨rfl, Hf.out⟩
end Go.Proofs.Ytdjllpejonfpgaa
