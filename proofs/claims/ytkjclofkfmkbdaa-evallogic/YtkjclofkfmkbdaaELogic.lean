/- The walk of the statement EvalLogic. -/
import Derived.Test.YtkjclofkfmkbdaaMStep
namespace Go.Proofs.Ytkjclofkfmkbdaa
open Go.RowKit Ex
open Go.Sort (grow)
set_option linter.unusedSimpArgs false
set_option linter.unusedVariables false

theorem two_boxes (w : World) (op n : Int) (A : Option Addr) (len cap : Nat) (op2 n2 : Int) (A2 : Option Addr) (len2 cap2 : Nat) :
    Box3 ((w.alloc (.cells #[.int .i64 op, .int .i64 n, .slice A len cap] 25)).alloc (.cells #[.int .i64 op2, .int .i64 n2, .slice A2 len2 cap2] 25)) w.heap.size op n A len cap ∧ Box3 ((w.alloc (.cells #[.int .i64 op, .int .i64 n, .slice A len cap] 25)).alloc (.cells #[.int .i64 op2, .int .i64 n2, .slice A2 len2 cap2] 25)) (w.heap.size + 1) op2 n2 A2 len2 cap2 := by
  refine ⟨(box_new w op n A len cap 25).below ((Below.refl (w.heap.size + 1) _).alloc (by simp) _) (by omega), ?_⟩
  have := box_new (w.alloc (.cells #[.int .i64 op, .int .i64 n, .slice A len cap] 25)) op2 n2 A2 len2 cap2 25
  simpa using this
theorem nodes_bd (t : T) : 1 ≤ nodesE t ∧ nodesE t ≤ 61 := by
  have := cnt_bd t 1 60 (by omega)
  unfold nodesE; omega
def five (ta tb : T) : List T := [notT ta, binT 6 ta tb, binT 7 ta tb, binT 8 ta tb, iteT ta tb]
def kdL (E1 E2 : Value) (ta tb : T) : List Kd := [.is E1, .kids [ta], .ex (notT ta), .is E1, .is E2, .kids [ta, tb], .ex (binT 6 ta tb), .is E1, .is E2, .kids [ta, tb], .ex (binT 7 ta tb), .is E1, .is E2, .kids [ta, tb], .ex (binT 8 ta tb), .is E1, .is E2, .is E1, .kids [ta, tb, ta], .ex (iteT ta tb), .kids (five ta tb), .is (.int .i64 5), .is (.int .i64 0)]
set_option maxRecDepth 100000 in
set_option maxHeartbeats 16000000 in
theorem elogic_any (B : Nat) (Av : Option Addr) (nv cv : Nat) (lv : List Dom.V) (d : Nat) (op n : Int) (A : Option Addr) (len cap : Nat) (t : T) (d2 : Nat) (op2 n2 : Int) (A2 : Option Addr) (len2 cap2 : Nat) (t2 : T) (now next : Int) (w : World) (ho : OkV nv cv lv) (hB : B ≤ w.heap.size) (hre : RE w B d op n A len cap t) (hre2 : RE w B d2 op2 n2 A2 len2 cap2 t2) (hrv : Dom.RV w B Av nv lv) :
    Calls Try.prog 5 #[.slice Av nv cv, .agg #[.int .i64 op, .int .i64 n, .slice A len cap], .agg #[.int .i64 op2, .int .i64 n2, .slice A2 len2 cap2], .int .i64 now, .int .i64 next] w fun e w' => e = .returned (.bool true) ∧ Below w.heap.size w w' := by
  have hbx : Below w.heap.size w ((w.alloc (.cells #[.int .i64 op, .int .i64 n, .slice A len cap] 25)).alloc (.cells #[.int .i64 op2, .int .i64 n2, .slice A2 len2 cap2] 25)) := ((Below.refl _ _).alloc (Nat.le_refl _) _).alloc (by simp) _
  have Hre := hide (hre.below (hbx.mono hB))
  have Hre2 := hide (hre2.below (hbx.mono hB))
  have Hrv := hide (hrv.below (hbx.mono hB))
  obtain ⟨bx1, bx2⟩ := two_boxes w op n A len cap op2 n2 A2 len2 cap2
  have Hbox := hide bx1
  have Hboy := hide bx2
  have hz0 : w.heap.size + 2 ≤ ((w.alloc (.cells #[.int .i64 op, .int .i64 n, .slice A len cap] 25)).alloc (.cells #[.int .i64 op2, .int .i64 n2, .slice A2 len2 cap2] 25)).heap.size := by simp
  have Hbx := hide hbx
  have Ho := hide ho
  clear hre hre2 hrv hbx ho bx1 bx2
  obtain ⟨h1a, h1b⟩ := vheavy_bd lv
  obtain ⟨h2a, h2b⟩ := heavy_bd t
  obtain ⟨h3a, h3b⟩ := heavy_bd t2
  obtain ⟨h4a, h4b⟩ := nodes_bd t
  obtain ⟨h5a, h5b⟩ := nodes_bd t2
  go_enter Try.func5, Try.ntmps5
  go_wp2_with fail
  generalize (w.alloc (.cells #[.int .i64 op, .int .i64 n, .slice A len cap] 25)).alloc (.cells #[.int .i64 op2, .int .i64 n2, .slice A2 len2 cap2] 25) = W at *
  have hBW : B ≤ W.heap.size := by omega
  have C0 := cell_regrown Hbox.out.1
  have C1 := cell_regrown Hbox.out.2.1
  have C2 := cell_regrown Hbox.out.2.2
  have E0 := cell_regrown Hboy.out.1
  have E1 := cell_regrown Hboy.out.2.1
  have E2 := cell_regrown Hboy.out.2.2
  by_cases hh : 0 < Dom.heavyGo 0 lv + heavyE t + heavyE t2
  · have hhb : decide (0 < Dom.heavyGo 0 lv + heavyE t + heavyE t2) = true := by simp [hh]
    refine wp_region_quiet_below (by kernel_rfl) (by kernel_rfl) ?_
    repeat (go_big_quiet_step (first | (go_at_call 9; exact q_vheavy hBW Ho (by assumption)) | (go_at_call 10; exact q_heavy hBW (by assumption)) | (go_at_call 20; exact q_nodes hBW (by assumption))))
    refine wpQuiet_nil ?_
    intro w3 hw3
    obtain ⟨p, hp⟩ := hw3
    have hb3 : Below W.heap.size W w3 := by rw [hp]; exact below_regrown W p.d p.os
    have hz3 := hb3.size
    have Hb3 := hide (Hbx.out.trans (hb3.mono (by omega)))
    have Hra3 := hide (Hre.out.below (hb3.mono hBW))
    have Hrb3 := hide (Hre2.out.below (hb3.mono hBW))
    have Hrv3 := hide (Hrv.out.below (hb3.mono hBW))
    have Hbox3 := hide (Hbox.out.below hb3 (by omega))
    have Hboy3 := hide (Hboy.out.below hb3 (by omega))
    have hz4 : w.heap.size + 2 ≤ w3.heap.size := by omega
    clear hp hb3 C0 C1 C2 E0 E1 E2 Hbx Hre Hre2 Hrv Hbox Hboy hBW hz3 hz0 W
    have hBW : B ≤ w3.heap.size := by omega
    clear h1a h1b h2a h2b h3a h3b h4a h4b h5a h5b
    go_wp2_with fail
    refine (awake_any _).mono ?_
    rintro e wz ⟨rfl, hbz⟩
    have Hf := hide (Hb3.out.trans (hbz.mono (by have := Hb3.out.size; omega)))
    clear hbz
    go_wp2_with fail
    go_ret
    exact ⟨rfl, Hf.out⟩
  · have hhb : decide (0 < Dom.heavyGo 0 lv + heavyE t + heavyE t2) = false := by simp; omega
    by_cases hn : 20 < nodesE t + nodesE t2
    · have hnb : decide (20 < nodesE t + nodesE t2) = true := by simp [hn]
      refine wp_region_quiet_below (by kernel_rfl) (by kernel_rfl) ?_
      repeat (go_big_quiet_step (first | (go_at_call 9; exact q_vheavy hBW Ho (by assumption)) | (go_at_call 10; exact q_heavy hBW (by assumption)) | (go_at_call 20; exact q_nodes hBW (by assumption))))
      refine wpQuiet_nil ?_
      intro w3 hw3
      obtain ⟨p, hp⟩ := hw3
      have hb3 : Below W.heap.size W w3 := by rw [hp]; exact below_regrown W p.d p.os
      have hz3 := hb3.size
      have Hb3 := hide (Hbx.out.trans (hb3.mono (by omega)))
      have Hra3 := hide (Hre.out.below (hb3.mono hBW))
      have Hrb3 := hide (Hre2.out.below (hb3.mono hBW))
      have Hrv3 := hide (Hrv.out.below (hb3.mono hBW))
      have Hbox3 := hide (Hbox.out.below hb3 (by omega))
      have Hboy3 := hide (Hboy.out.below hb3 (by omega))
      have hz4 : w.heap.size + 2 ≤ w3.heap.size := by omega
      clear hp hb3 C0 C1 C2 E0 E1 E2 Hbx Hre Hre2 Hrv Hbox Hboy hBW hz3 hz0 W
      have hBW : B ≤ w3.heap.size := by omega
      clear h1a h1b h2a h2b h3a h3b h4a h4b h5a h5b
      go_wp2_with fail
      refine (awake_any _).mono ?_
      rintro e wz ⟨rfl, hbz⟩
      have Hf := hide (Hb3.out.trans (hbz.mono (by have := Hb3.out.size; omega)))
      clear hbz
      go_wp2_with fail
      go_ret
      exact ⟨rfl, Hf.out⟩
    · have hnb : decide (20 < nodesE t + nodesE t2) = false := by simp; omega
      refine wp_region_quiet_below (by kernel_rfl) (by kernel_rfl) ?_
      repeat (go_big_quiet_step (first | (go_at_call 9; exact q_vheavy hBW Ho (by assumption)) | (go_at_call 10; exact q_heavy hBW (by assumption)) | (go_at_call 20; exact q_nodes hBW (by assumption))))
      refine wpQuiet_nil ?_
      intro w3 hw3
      obtain ⟨p, hp⟩ := hw3
      have hb3 : Below W.heap.size W w3 := by rw [hp]; exact below_regrown W p.d p.os
      have hz3 := hb3.size
      have Hb3 := hide (Hbx.out.trans (hb3.mono (by omega)))
      have Hra3 := hide (Hre.out.below (hb3.mono hBW))
      have Hrb3 := hide (Hre2.out.below (hb3.mono hBW))
      have Hrv3 := hide (Hrv.out.below (hb3.mono hBW))
      have Hbox3 := hide (Hbox.out.below hb3 (by omega))
      have Hboy3 := hide (Hboy.out.below hb3 (by omega))
      have hz4 : w.heap.size + 2 ≤ w3.heap.size := by omega
      clear hp hb3 C0 C1 C2 E0 E1 E2 Hbx Hre Hre2 Hrv Hbox Hboy hBW hz3 hz0 W
      have hBW : B ≤ w3.heap.size := by omega
      clear h1a h1b h2a h2b h3a h3b h4a h4b h5a h5b
      clear hh hhb hn hnb
      obtain ⟨f0, f1, f2⟩ := Hbox3.out
      go_wp2_with fail
      clear f0 f1 f2
      refine (of_any B Av nv cv lv d op n A len cap t w3 Ho.out.1 Ho.out.2.1 Ho.out.2.2.1 (by omega) Hra3.out Hrv3.out Ho.out.2.2.2).mono ?_
      rintro e w4 ⟨rfl, hb4⟩
      have hz4 := hb4.size
      have Hb4 := hide (Hb3.out.trans (hb4.mono (by have := Hb3.out.size; omega)))
      have Hra4 := hide (Hra3.out.below (hb4.mono (by omega)))
      have Hrb4 := hide (Hrb3.out.below (hb4.mono (by omega)))
      have Hrv4 := hide (Hrv3.out.below (hb4.mono (by omega)))
      have Hbox4 := hide (Hbox3.out.below hb4 (by omega))
      have Hboy4 := hide (Hboy3.out.below hb4 (by omega))
      clear hb4 Hb3 Hra3 Hrb3 Hrv3 Hbox3 Hboy3
      obtain ⟨r, hr⟩ : ∃ r, sortE lv t = r := ⟨_, rfl⟩
      have Hst := hide hr
      rw [hr]
      clear hr
      obtain ⟨s1, s2⟩ := r
      simp only
      obtain ⟨f0, f1, f2⟩ := Hboy4.out
      go_wp2_with fail
      clear f0 f1 f2
      refine (of_any B Av nv cv lv d2 op2 n2 A2 len2 cap2 t2 w4 Ho.out.1 Ho.out.2.1 Ho.out.2.2.1 (by omega) Hrb4.out Hrv4.out Ho.out.2.2.2).mono ?_
      rintro e w5 ⟨rfl, hb5⟩
      have hz5 := hb5.size
      have Hb5 := hide (Hb4.out.trans (hb5.mono (by have := Hb4.out.size; omega)))
      have Hra5 := hide (Hra4.out.below (hb5.mono (by omega)))
      have Hrb5 := hide (Hrb4.out.below (hb5.mono (by omega)))
      have Hrv5 := hide (Hrv4.out.below (hb5.mono (by omega)))
      have Hbox5 := hide (Hbox4.out.below hb5 (by omega))
      have Hboy5 := hide (Hboy4.out.below hb5 (by omega))
      clear hb5 Hb4 Hra4 Hrb4 Hrv4 Hbox4 Hboy4
      obtain ⟨r, hr⟩ : ∃ r, sortE lv t2 = r := ⟨_, rfl⟩
      have Hst2 := hide hr
      rw [hr]
      clear hr
      obtain ⟨u1, u2⟩ := r
      simp only
      by_cases hc0 : s2 = 0
      · have hcb0 : (s2 != 0) = false := by simp [hc0]
        by_cases hc1 : u2 = 0
        · have hcb1 : (u2 != 0) = false := by simp [hc1]
          by_cases hc2 : s1 = 1
          · have hcb2 : (s1 != 1) = false := by simp [hc2]
            by_cases hc3 : u1 = 1
            · have hcb3 : (u1 != 1) = false := by simp [hc3]
              by_cases hc4 : 0 ≤ now
              · have hcb4 : decide (now < 0) = false := by simp; omega
                by_cases hc5 : 0 ≤ next
                · have hcb5 : decide (next < 0) = false := by simp; omega
                  go_wp2_with fail
                  refine (Dom.total_any Av nv cv B lv w5 Ho.out.1 (by omega) Hrv5.out).mono ?_
                  rintro e w6 ⟨rfl, hb6⟩
                  have hz6 := hb6.size
                  have Hb6 := hide (Hb5.out.trans (hb6.mono (by have := Hb5.out.size; omega)))
                  have Hra6 := hide (Hra5.out.below (hb6.mono (by omega)))
                  have Hrb6 := hide (Hrb5.out.below (hb6.mono (by omega)))
                  have Hrv6 := hide (Hrv5.out.below (hb6.mono (by omega)))
                  have Hbox6 := hide (Hbox5.out.below hb6 (by omega))
                  have Hboy6 := hide (Hboy5.out.below hb6 (by omega))
                  clear hb6 Hb5 Hra5 Hrb5 Hrv5 Hbox5 Hboy5
                  by_cases hc6 : Dom.totL lv ≤ now
                  · have hcb6 : decide (Dom.totL lv ≤ now) = true := by simp [hc6]
                    clear hc6
                    go_wp2_with fail
                    refine (awake_any _).mono ?_
                    rintro e wz ⟨rfl, hbz⟩
                    have Hf := hide (Hb6.out.trans (hbz.mono (by have := Hb6.out.size; omega)))
                    clear hbz
                    go_wp2_with fail
                    go_ret
                    exact ⟨rfl, Hf.out⟩
                  · have hcb6 : decide (Dom.totL lv ≤ now) = false := by simp; omega
                    go_wp2_with fail
                    refine (Dom.total_any Av nv cv B lv w6 Ho.out.1 (by omega) Hrv6.out).mono ?_
                    rintro e w7 ⟨rfl, hb7⟩
                    have hz7 := hb7.size
                    have Hb7 := hide (Hb6.out.trans (hb7.mono (by have := Hb6.out.size; omega)))
                    have Hra7 := hide (Hra6.out.below (hb7.mono (by omega)))
                    have Hrb7 := hide (Hrb6.out.below (hb7.mono (by omega)))
                    have Hrv7 := hide (Hrv6.out.below (hb7.mono (by omega)))
                    have Hbox7 := hide (Hbox6.out.below hb7 (by omega))
                    have Hboy7 := hide (Hboy6.out.below hb7 (by omega))
                    clear hb7 Hb6 Hra6 Hrb6 Hrv6 Hbox6 Hboy6
                    by_cases hc7 : Dom.totL lv ≤ next
                    · have hcb7 : decide (Dom.totL lv ≤ next) = true := by simp [hc7]
                      clear hc7
                      go_wp2_with fail
                      refine (awake_any _).mono ?_
                      rintro e wz ⟨rfl, hbz⟩
                      have Hf := hide (Hb7.out.trans (hbz.mono (by have := Hb7.out.size; omega)))
                      clear hbz
                      go_wp2_with fail
                      go_ret
                      exact ⟨rfl, Hf.out⟩
                    · have hcb7 : decide (Dom.totL lv ≤ next) = false := by simp; omega
                      have hc6' : now < Dom.totL lv := by omega
                      have hc7' : next < Dom.totL lv := by omega
                      have Hlv := hide (logic_val (a := t) (b := t2) hc4 hc6' hc5 hc7' (by rw [Hst.out, hc0, hc2]) (by rw [Hst2.out, hc1, hc3]))
                      clear hc0 hc1 hc2 hc3 Hst Hst2
                      go_wp2_with fail
                      refine abs_act ?_
                      intro a0 ha0
                      have e6 : a0.eval (.tmp 6) = .pointer (some ⟨w.heap.size, 0, none⟩) := by rw [ha0]; rfl
                      have e7 : a0.eval (.tmp 7) = .pointer (some ⟨w.heap.size + 1, 0, none⟩) := by rw [ha0]; rfl
                      have hsz : 96 + 23 ≤ a0.tmps.size := by rw [ha0]; simp
                      have Ha0 := hide ha0
                      clear ha0
                      refine region_inv 96 (PJ (kdL (.agg #[.int .i64 op, .int .i64 n, .slice A len cap]) (.agg #[.int .i64 op2, .int .i64 n2, .slice A2 len2 cap2]) t t2)) (by kernel_rfl) (by simpa using hsz) (regOk_spec (lo := 96) (by kernel_rfl)).1 (regOk_spec (lo := 96) (by kernel_rfl)).2 (pj_mono _) ?_ ?_
                      · clear Ha0
                        intro j o v w8 ho hb hdep
                        have hz8 := hb.out.size
                        have ka : KidIs w8 d ⟨op, n, A, len, cap⟩ t := RE.more (by omega) _ _ _ _ _ _ _ (Hra7.out.below (hb.out.mono (by omega)))
                        have kb : KidIs w8 d2 ⟨op2, n2, A2, len2, cap2⟩ t2 := RE.more (by omega) _ _ _ _ _ _ _ (Hrb7.out.below (hb.out.mono (by omega)))
                        have hj : j < 23 := by
                          have := (Array.getElem?_eq_some_iff.1 ho).1
                          simpa using this
                        have hj2 : j = 0 ∨ j = 1 ∨ j = 2 ∨ j = 3 ∨ j = 4 ∨ j = 5 ∨ j = 6 ∨ j = 7 ∨ j = 8 ∨ j = 9 ∨ j = 10 ∨ j = 11 ∨ j = 12 ∨ j = 13 ∨ j = 14 ∨ j = 15 ∨ j = 16 ∨ j = 17 ∨ j = 18 ∨ j = 19 ∨ j = 20 ∨ j = 21 ∨ j = 22 := by omega
                        clear hj
                        rcases hj2 with rfl | rfl | rfl | rfl | rfl | rfl | rfl | rfl | rfl | rfl | rfl | rfl | rfl | rfl | rfl | rfl | rfl | rfl | rfl | rfl | rfl | rfl | rfl
                        · simp at ho
                          subst ho
                          exact st_load ((over_out (by omega)).trans e6) (Hbox7.out.below hb.out (by omega)) ⟨_, rfl, rfl, Below.refl _ _⟩
                        · simp at ho
                          subst ho
                          have d0 : v 0 = .agg #[.int .i64 op, .int .i64 n, .slice A len cap] := hdep ⟨0, .data⟩ (by simp) rfl
                          exact st_build1 ((over_in (j := 0) (by omega) hsz).trans d0) ⟨_, rfl, laid1 (a := ⟨op, n, A, len, cap⟩) ka, (Below.refl _ _).alloc (Nat.le_refl _) _⟩
                        · simp at ho
                          subst ho
                          have d1 : KidsP w8 (v 1) [t] := hdep ⟨1, .data⟩ (by simp) rfl
                          obtain ⟨g, dd, hx, hr⟩ := d1
                          exact st_call ((over_in (j := 1) (by omega) hsz).trans hx) (fun w9 hw9 => ⟨_, rfl, kids_ex rfl hr hw9, hw9⟩)
                        · simp at ho
                          subst ho
                          exact st_load ((over_out (by omega)).trans e6) (Hbox7.out.below hb.out (by omega)) ⟨_, rfl, rfl, Below.refl _ _⟩
                        · simp at ho
                          subst ho
                          exact st_load ((over_out (by omega)).trans e7) (Hboy7.out.below hb.out (by omega)) ⟨_, rfl, rfl, Below.refl _ _⟩
                        · simp at ho
                          subst ho
                          have d3 : v 3 = .agg #[.int .i64 op, .int .i64 n, .slice A len cap] := hdep ⟨3, .data⟩ (by simp) rfl
                          have d4 : v 4 = .agg #[.int .i64 op2, .int .i64 n2, .slice A2 len2 cap2] := hdep ⟨4, .data⟩ (by simp) rfl
                          exact st_build2 ((over_in (j := 3) (by omega) hsz).trans d3) ((over_in (j := 4) (by omega) hsz).trans d4) ⟨_, rfl, laid2 (a := ⟨op, n, A, len, cap⟩) (b := ⟨op2, n2, A2, len2, cap2⟩) ka kb, (Below.refl _ _).alloc (Nat.le_refl _) _⟩
                        · simp at ho
                          subst ho
                          have d5 : KidsP w8 (v 5) [t, t2] := hdep ⟨5, .data⟩ (by simp) rfl
                          obtain ⟨g, dd, hx, hr⟩ := d5
                          exact st_call ((over_in (j := 5) (by omega) hsz).trans hx) (fun w9 hw9 => ⟨_, rfl, kids_ex rfl hr hw9, hw9⟩)
                        · simp at ho
                          subst ho
                          exact st_load ((over_out (by omega)).trans e6) (Hbox7.out.below hb.out (by omega)) ⟨_, rfl, rfl, Below.refl _ _⟩
                        · simp at ho
                          subst ho
                          exact st_load ((over_out (by omega)).trans e7) (Hboy7.out.below hb.out (by omega)) ⟨_, rfl, rfl, Below.refl _ _⟩
                        · simp at ho
                          subst ho
                          have d7 : v 7 = .agg #[.int .i64 op, .int .i64 n, .slice A len cap] := hdep ⟨7, .data⟩ (by simp) rfl
                          have d8 : v 8 = .agg #[.int .i64 op2, .int .i64 n2, .slice A2 len2 cap2] := hdep ⟨8, .data⟩ (by simp) rfl
                          exact st_build2 ((over_in (j := 7) (by omega) hsz).trans d7) ((over_in (j := 8) (by omega) hsz).trans d8) ⟨_, rfl, laid2 (a := ⟨op, n, A, len, cap⟩) (b := ⟨op2, n2, A2, len2, cap2⟩) ka kb, (Below.refl _ _).alloc (Nat.le_refl _) _⟩
                        · simp at ho
                          subst ho
                          have d9 : KidsP w8 (v 9) [t, t2] := hdep ⟨9, .data⟩ (by simp) rfl
                          obtain ⟨g, dd, hx, hr⟩ := d9
                          exact st_call ((over_in (j := 9) (by omega) hsz).trans hx) (fun w9 hw9 => ⟨_, rfl, kids_ex rfl hr hw9, hw9⟩)
                        · simp at ho
                          subst ho
                          exact st_load ((over_out (by omega)).trans e6) (Hbox7.out.below hb.out (by omega)) ⟨_, rfl, rfl, Below.refl _ _⟩
                        · simp at ho
                          subst ho
                          exact st_load ((over_out (by omega)).trans e7) (Hboy7.out.below hb.out (by omega)) ⟨_, rfl, rfl, Below.refl _ _⟩
                        · simp at ho
                          subst ho
                          have d11 : v 11 = .agg #[.int .i64 op, .int .i64 n, .slice A len cap] := hdep ⟨11, .data⟩ (by simp) rfl
                          have d12 : v 12 = .agg #[.int .i64 op2, .int .i64 n2, .slice A2 len2 cap2] := hdep ⟨12, .data⟩ (by simp) rfl
                          exact st_build2 ((over_in (j := 11) (by omega) hsz).trans d11) ((over_in (j := 12) (by omega) hsz).trans d12) ⟨_, rfl, laid2 (a := ⟨op, n, A, len, cap⟩) (b := ⟨op2, n2, A2, len2, cap2⟩) ka kb, (Below.refl _ _).alloc (Nat.le_refl _) _⟩
                        · simp at ho
                          subst ho
                          have d13 : KidsP w8 (v 13) [t, t2] := hdep ⟨13, .data⟩ (by simp) rfl
                          obtain ⟨g, dd, hx, hr⟩ := d13
                          exact st_call ((over_in (j := 13) (by omega) hsz).trans hx) (fun w9 hw9 => ⟨_, rfl, kids_ex rfl hr hw9, hw9⟩)
                        · simp at ho
                          subst ho
                          exact st_load ((over_out (by omega)).trans e6) (Hbox7.out.below hb.out (by omega)) ⟨_, rfl, rfl, Below.refl _ _⟩
                        · simp at ho
                          subst ho
                          exact st_load ((over_out (by omega)).trans e7) (Hboy7.out.below hb.out (by omega)) ⟨_, rfl, rfl, Below.refl _ _⟩
                        · simp at ho
                          subst ho
                          exact st_load ((over_out (by omega)).trans e6) (Hbox7.out.below hb.out (by omega)) ⟨_, rfl, rfl, Below.refl _ _⟩
                        · simp at ho
                          subst ho
                          have d15 : v 15 = .agg #[.int .i64 op, .int .i64 n, .slice A len cap] := hdep ⟨15, .data⟩ (by simp) rfl
                          have d16 : v 16 = .agg #[.int .i64 op2, .int .i64 n2, .slice A2 len2 cap2] := hdep ⟨16, .data⟩ (by simp) rfl
                          have d17 : v 17 = .agg #[.int .i64 op, .int .i64 n, .slice A len cap] := hdep ⟨17, .data⟩ (by simp) rfl
                          exact st_build3 ((over_in (j := 15) (by omega) hsz).trans d15) ((over_in (j := 16) (by omega) hsz).trans d16) ((over_in (j := 17) (by omega) hsz).trans d17) ⟨_, rfl, laid3 (a := ⟨op, n, A, len, cap⟩) (b := ⟨op2, n2, A2, len2, cap2⟩) (c := ⟨op, n, A, len, cap⟩) ka kb ka, (Below.refl _ _).alloc (Nat.le_refl _) _⟩
                        · simp at ho
                          subst ho
                          have d18 : KidsP w8 (v 18) [t, t2, t] := hdep ⟨18, .data⟩ (by simp) rfl
                          obtain ⟨g, dd, hx, hr⟩ := d18
                          exact st_call ((over_in (j := 18) (by omega) hsz).trans hx) (fun w9 hw9 => ⟨_, rfl, kids_ex rfl hr hw9, hw9⟩)
                        · simp at ho
                          subst ho
                          have d2 : ExP w8 (v 2) (notT t) := hdep ⟨2, .data⟩ (by simp) rfl
                          have d6 : ExP w8 (v 6) (binT 6 t t2) := hdep ⟨6, .data⟩ (by simp) rfl
                          have d10 : ExP w8 (v 10) (binT 7 t t2) := hdep ⟨10, .data⟩ (by simp) rfl
                          have d14 : ExP w8 (v 14) (binT 8 t t2) := hdep ⟨14, .data⟩ (by simp) rfl
                          have d19 : ExP w8 (v 19) (iteT t t2) := hdep ⟨19, .data⟩ (by simp) rfl
                          obtain ⟨o2, n2, A2, l2, c2, dd2, x2, r2⟩ := d2
                          obtain ⟨o6, n6, A6, l6, c6, dd6, x6, r6⟩ := d6
                          obtain ⟨o10, n10, A10, l10, c10, dd10, x10, r10⟩ := d10
                          obtain ⟨o14, n14, A14, l14, c14, dd14, x14, r14⟩ := d14
                          obtain ⟨o19, n19, A19, l19, c19, dd19, x19, r19⟩ := d19
                          exact st_build5 ((over_in (j := 2) (by omega) hsz).trans x2) ((over_in (j := 6) (by omega) hsz).trans x6) ((over_in (j := 10) (by omega) hsz).trans x10) ((over_in (j := 14) (by omega) hsz).trans x14) ((over_in (j := 19) (by omega) hsz).trans x19) ⟨_, rfl, laid5 (a := ⟨o2, n2, A2, l2, c2⟩) (b := ⟨o6, n6, A6, l6, c6⟩) (c := ⟨o10, n10, A10, l10, c10⟩) (e := ⟨o14, n14, A14, l14, c14⟩) (f := ⟨o19, n19, A19, l19, c19⟩) r2 r6 r10 r14 r19, (Below.refl _ _).alloc (Nat.le_refl _) _⟩
                        · simp at ho
                          subst ho
                          have d20 : KidsP w8 (v 20) (five t t2) := hdep ⟨20, .data⟩ (by simp) rfl
                          obtain ⟨g, dd, hx, hr⟩ := d20
                          exact st_len ((over_in (j := 20) (by omega) hsz).trans hx) ⟨_, rfl, rfl, Below.refl _ _⟩
                        · simp at ho
                          subst ho
                          exact st_move ⟨_, rfl, rfl, Below.refl _ _⟩
                      · intro v w8 hv hb
                        have h20 : KidsP w8 (v 20) (five t t2) := hv 20 (by simp)
                        have h21 : v 21 = .int .i64 5 := hv 21 (by simp)
                        have h22 : v 22 = .int .i64 0 := hv 22 (by simp)
                        obtain ⟨g, dd, hx, hr⟩ := h20
                        have hx5 : v 20 = .slice (some ⟨g, 0, none⟩) 5 5 := hx
                        rw [over_puts]
                        simp only [List.size_toArray, List.length_cons, List.length_nil, putsV, hx5, h21, h22]
                        rw [Ha0.out]
                        clear hv h21 h22 hx hx5 e6 e7 hsz Ha0
                        have hb8 := hb.out
                        clear hb
                        have hz8 := hb8.size
                        have Hb8 := hide (Hb7.out.trans (hb8.mono (by have := Hb7.out.size; omega)))
                        have Hra8 := hide (Hra7.out.below (hb8.mono (by omega)))
                        have Hrb8 := hide (Hrb7.out.below (hb8.mono (by omega)))
                        have Hrv8 := hide (Hrv7.out.below (hb8.mono (by omega)))
                        have Hbox8 := hide (Hbox7.out.below hb8 (by omega))
                        have Hboy8 := hide (Hboy7.out.below hb8 (by omega))
                        clear hb8 Hb7 Hra7 Hrb7 Hrv7 Hbox7 Hboy7
                        have Hr5 := hide hr
                        clear hr
                        go_simp
                        go_wp2_with fail
                        go_loopw [118] (fun i wr => ∃ k : Nat, k ≤ 5 ∧ i = .int .i64 k ∧ Hid (∀ j u, j < k → (five t t2)[j]? = some u → mayE u = 0) ∧ Below w8.heap.size w8 wr) (fun i _ => 5 - (intOf i).toNat)
                        case atStart => exact ⟨0, by omega, rfl, hide (fun j u h _ => absurd h (by omega)), Below.refl _ _⟩
                        case round =>
                          obtain ⟨k, hk, rfl, HM, hbw⟩ := hrel
                          have hzr := hbw.size
                          by_cases hlt : k < 5
                          · have hlt' : ((k : Int) < 5) := by omega
                            obtain ⟨dd2, rfl⟩ : ∃ x, dd = x + 1 := by
                              cases dd with
                              | zero => exact absurd (Hr5.out 0) id
                              | succ x => exact ⟨x, rfl⟩
                            obtain ⟨b3, off3, u, op3, n3, A3, l3, c3, eA, hb3, hku, ⟨c0, c1, cs⟩, hre3⟩ := ((Hr5.out 0).below hbw).at_ (k := k) hlt
                            injection eA with eA; injection eA with eA1 eA2; subst eA1; subst eA2
                            simp only [Nat.zero_add] at c0 c1 cs
                            have HM2 : Hid (mayE u = 0 → ∀ j v, j < k + 1 → (five t t2)[j]? = some v → mayE v = 0) := hide (fun hu j v hj hv => by
                              by_cases h : j = k
                              · subst h
                                have : some u = some v := hku.symm.trans hv
                                injection this with this
                                rw [← this]; exact hu
                              · exact HM.out j v (by omega) hv)
                            have hbA := (Below.refl wr.heap.size wr).alloc (Nat.le_refl _) (.cells #[.int .i64 op3, .int .i64 n3, .slice A3 l3 c3] 25)
                            have Hre3 := hide (hre3.below (hbA.mono hzr))
                            have HbA := hide (hbw.trans (hbA.mono hzr))
                            have hzA := alloc_size wr (.cells #[.int .i64 op3, .int .i64 n3, .slice A3 l3 c3] 25)
                            obtain ⟨f0, f1, f2⟩ := box_new wr op3 n3 A3 l3 c3 25
                            clear hre3 hku hbA HM hbw
                            go_wp2_with fail
                            clear f0 f1 f2 c0 c1 cs
                            generalize wr.alloc (.cells #[.int .i64 op3, .int .i64 n3, .slice A3 l3 c3] 25) = W1 at *
                            refine (may_any w8.heap.size dd2 op3 n3 A3 l3 c3 u W1 (by omega) Hre3.out).mono ?_
                            rintro e w9 ⟨rfl, hb9⟩
                            have Hb9 := hide (HbA.out.trans (hb9.mono (by omega)))
                            clear hb9 HbA Hre3
                            by_cases hm : mayE u = 0
                            · have hmb : (mayE u != 0) = false := by simp [hm]
                              have HM3 := hide (HM2.out hm)
                              clear hm HM2
                              go_wp2_with fail
                              go_roundw
                              case rel => exact ⟨k + 1, by omega, by go_num, HM3, Hb9.out⟩
                              case measure => simp [intOf]; omega
                            · have hmb : (mayE u != 0) = true := by simp [hm]
                              clear hm HM2
                              have Hbz := hide (Hb8.out.trans (Hb9.out.mono (by have := Hb8.out.size; omega)))
                              go_wp2_with fail
                              refine (awake_any _).mono ?_
                              rintro e wz ⟨rfl, hbz⟩
                              have Hf := hide (Hbz.out.trans (hbz.mono (by have := Hbz.out.size; omega)))
                              clear hbz
                              go_wp2_with fail
                              go_ret
                              exact ⟨rfl, Hf.out⟩
                          · have hlt' : ¬ ((k : Int) < 5) := by omega
                            obtain rfl : k = 5 := by omega
                            have m0 := HM.out 0 (notT t) (by omega) rfl
                            have m1 := HM.out 1 (binT 6 t t2) (by omega) rfl
                            have m2 := HM.out 2 (binT 7 t t2) (by omega) rfl
                            have m3 := HM.out 3 (binT 8 t t2) (by omega) rfl
                            have m4 := HM.out 4 (iteT t t2) (by omega) rfl
                            have Hl := hide (Hlv.out m0 m1 m2 m3 m4)
                            clear m0 m1 m2 m3 m4 HM Hlv Hr5 hlt
                            obtain ⟨w10, rfl⟩ : ∃ w10, w10 = wr := ⟨_, rfl⟩
                            have Hb10 := hide (Hb8.out.trans (hbw.mono (by have := Hb8.out.size; omega)))
                            have Hra10 := hide (Hra8.out.below (hbw.mono (by omega)))
                            have Hrb10 := hide (Hrb8.out.below (hbw.mono (by omega)))
                            have Hrv10 := hide (Hrv8.out.below (hbw.mono (by omega)))
                            have Hbox10 := hide (Hbox8.out.below hbw (by omega))
                            have Hboy10 := hide (Hboy8.out.below hbw (by omega))
                            clear hbw Hb8 Hra8 Hrb8 Hrv8 Hbox8 Hboy8
                            obtain ⟨f0, f1, f2⟩ := Hbox10.out
                            go_wp2_with fail
                            clear f0 f1 f2
                            refine (dval_any B Av nv cv lv d op n A len cap t now next w10 Ho.out.1 Ho.out.2.1 Ho.out.2.2.1 (by omega) Hra10.out Hrv10.out Ho.out.2.2.2).mono ?_
                            rintro e w11 ⟨rfl, hb11⟩
                            have hz11 := hb11.size
                            have Hb11 := hide (Hb10.out.trans (hb11.mono (by have := Hb10.out.size; omega)))
                            have Hra11 := hide (Hra10.out.below (hb11.mono (by omega)))
                            have Hrb11 := hide (Hrb10.out.below (hb11.mono (by omega)))
                            have Hrv11 := hide (Hrv10.out.below (hb11.mono (by omega)))
                            have Hbox11 := hide (Hbox10.out.below hb11 (by omega))
                            have Hboy11 := hide (Hboy10.out.below hb11 (by omega))
                            clear hb11 Hb10 Hra10 Hrb10 Hrv10 Hbox10 Hboy10
                            obtain ⟨r, hr⟩ : ∃ r, valE lv t now next = r := ⟨_, rfl⟩
                            have Hva := hide hr
                            rw [hr]
                            clear hr
                            obtain ⟨pa, xa⟩ := r
                            simp only
                            obtain ⟨f0, f1, f2⟩ := Hboy11.out
                            go_wp2_with fail
                            clear f0 f1 f2
                            refine (dval_any B Av nv cv lv d2 op2 n2 A2 len2 cap2 t2 now next w11 Ho.out.1 Ho.out.2.1 Ho.out.2.2.1 (by omega) Hrb11.out Hrv11.out Ho.out.2.2.2).mono ?_
                            rintro e w12 ⟨rfl, hb12⟩
                            have hz12 := hb12.size
                            have Hb12 := hide (Hb11.out.trans (hb12.mono (by have := Hb11.out.size; omega)))
                            have Hra12 := hide (Hra11.out.below (hb12.mono (by omega)))
                            have Hrb12 := hide (Hrb11.out.below (hb12.mono (by omega)))
                            have Hrv12 := hide (Hrv11.out.below (hb12.mono (by omega)))
                            have Hbox12 := hide (Hbox11.out.below hb12 (by omega))
                            have Hboy12 := hide (Hboy11.out.below hb12 (by omega))
                            clear hb12 Hb11 Hra11 Hrb11 Hrv11 Hbox11 Hboy11
                            obtain ⟨r, hr⟩ : ∃ r, valE lv t2 now next = r := ⟨_, rfl⟩
                            have Hvb := hide hr
                            rw [hr]
                            clear hr
                            obtain ⟨pb, xb⟩ := r
                            simp only
                            have ka : KidIs w12 d ⟨op, n, A, len, cap⟩ t := RE.more (by omega) _ _ _ _ _ _ _ Hra12.out
                            have kb : KidIs w12 d2 ⟨op2, n2, A2, len2, cap2⟩ t2 := RE.more (by omega) _ _ _ _ _ _ _ Hrb12.out
                            obtain ⟨dk, hrk⟩ := kids_re (laid1 (a := ⟨op, n, A, len, cap⟩) ka)
                            have hbl := (Below.refl w12.heap.size w12).alloc (Nat.le_refl _) (.cells #[.int .i64 op, .int .i64 n, .slice A len cap] 25)
                            have hzl := alloc_size w12 (.cells #[.int .i64 op, .int .i64 n, .slice A len cap] 25)
                            have Hrk := hide hrk
                            have Hbl := hide hbl
                            clear ka kb hrk hbl
                            obtain ⟨f0, f1, f2⟩ := Hbox12.out
                            obtain ⟨g0, g1, g2⟩ := Hboy12.out
                            go_wp2_with fail
                            clear f0 f1 f2 g0 g1 g2
                            refine (op_any _ _ _ _ _).mono ?_
                            rintro e w13 ⟨rfl, hb13⟩
                            have Hrt := hide (re_up (Hrk.out 5) hb13)
                            have hbq : Below w12.heap.size w12 w13 := Hbl.out.trans (hb13.mono (by omega))
                            clear hb13 Hrk Hbl hzl
                            have hz13 := hbq.size
                            have Hb13 := hide (Hb12.out.trans (hbq.mono (by have := Hb12.out.size; omega)))
                            have Hra13 := hide (Hra12.out.below (hbq.mono (by omega)))
                            have Hrb13 := hide (Hrb12.out.below (hbq.mono (by omega)))
                            have Hrv13 := hide (Hrv12.out.below (hbq.mono (by omega)))
                            have Hbox13 := hide (Hbox12.out.below hbq (by omega))
                            have Hboy13 := hide (Hboy12.out.below hbq (by omega))
                            clear hbq Hb12 Hra12 Hrb12 Hrv12 Hbox12 Hboy12
                            have Hrvm := hide (Hrv13.out.more (B' := w13.heap.size) (by omega))
                            go_wp2_with fail
                            refine (dval_any w13.heap.size Av nv cv lv dk 5 0 _ 1 1 (notT t) now next w13 Ho.out.1 Ho.out.2.1 Ho.out.2.2.1 (Nat.le_refl _) Hrt.out Hrvm.out Ho.out.2.2.2).mono ?_
                            rintro e w14 ⟨rfl, hb14⟩
                            have hz14 := hb14.size
                            have Hb14 := hide (Hb13.out.trans (hb14.mono (by have := Hb13.out.size; omega)))
                            have Hra14 := hide (Hra13.out.below (hb14.mono (by omega)))
                            have Hrb14 := hide (Hrb13.out.below (hb14.mono (by omega)))
                            have Hrv14 := hide (Hrv13.out.below (hb14.mono (by omega)))
                            have Hbox14 := hide (Hbox13.out.below hb14 (by omega))
                            have Hboy14 := hide (Hboy13.out.below hb14 (by omega))
                            clear hb14 Hb13 Hra13 Hrb13 Hrv13 Hbox13 Hboy13
                            obtain ⟨r, hr⟩ : ∃ r, valE lv (notT t) now next = r := ⟨_, rfl⟩
                            have Hvn := hide hr
                            rw [hr]
                            clear hr Hrt Hrvm
                            obtain ⟨pn, xn⟩ := r
                            simp only
                            have ka : KidIs w14 d ⟨op, n, A, len, cap⟩ t := RE.more (by omega) _ _ _ _ _ _ _ Hra14.out
                            have kb : KidIs w14 d2 ⟨op2, n2, A2, len2, cap2⟩ t2 := RE.more (by omega) _ _ _ _ _ _ _ Hrb14.out
                            obtain ⟨dk, hrk⟩ := kids_re (laid2 (a := ⟨op, n, A, len, cap⟩) (b := ⟨op2, n2, A2, len2, cap2⟩) ka kb)
                            have hbl := (Below.refl w14.heap.size w14).alloc (Nat.le_refl _) (.cells #[.int .i64 op, .int .i64 n, .slice A len cap, .int .i64 op2, .int .i64 n2, .slice A2 len2 cap2] 25)
                            have hzl := alloc_size w14 (.cells #[.int .i64 op, .int .i64 n, .slice A len cap, .int .i64 op2, .int .i64 n2, .slice A2 len2 cap2] 25)
                            have Hrk := hide hrk
                            have Hbl := hide hbl
                            clear ka kb hrk hbl
                            obtain ⟨f0, f1, f2⟩ := Hbox14.out
                            obtain ⟨g0, g1, g2⟩ := Hboy14.out
                            go_wp2_with fail
                            clear f0 f1 f2 g0 g1 g2
                            refine (op_any _ _ _ _ _).mono ?_
                            rintro e w15 ⟨rfl, hb15⟩
                            have Hrt := hide (re_up (Hrk.out 6) hb15)
                            have hbq : Below w14.heap.size w14 w15 := Hbl.out.trans (hb15.mono (by omega))
                            clear hb15 Hrk Hbl hzl
                            have hz15 := hbq.size
                            have Hb15 := hide (Hb14.out.trans (hbq.mono (by have := Hb14.out.size; omega)))
                            have Hra15 := hide (Hra14.out.below (hbq.mono (by omega)))
                            have Hrb15 := hide (Hrb14.out.below (hbq.mono (by omega)))
                            have Hrv15 := hide (Hrv14.out.below (hbq.mono (by omega)))
                            have Hbox15 := hide (Hbox14.out.below hbq (by omega))
                            have Hboy15 := hide (Hboy14.out.below hbq (by omega))
                            clear hbq Hb14 Hra14 Hrb14 Hrv14 Hbox14 Hboy14
                            have Hrvm := hide (Hrv15.out.more (B' := w15.heap.size) (by omega))
                            go_wp2_with fail
                            refine (dval_any w15.heap.size Av nv cv lv dk 6 0 _ 2 2 (binT 6 t t2) now next w15 Ho.out.1 Ho.out.2.1 Ho.out.2.2.1 (Nat.le_refl _) Hrt.out Hrvm.out Ho.out.2.2.2).mono ?_
                            rintro e w16 ⟨rfl, hb16⟩
                            have hz16 := hb16.size
                            have Hb16 := hide (Hb15.out.trans (hb16.mono (by have := Hb15.out.size; omega)))
                            have Hra16 := hide (Hra15.out.below (hb16.mono (by omega)))
                            have Hrb16 := hide (Hrb15.out.below (hb16.mono (by omega)))
                            have Hrv16 := hide (Hrv15.out.below (hb16.mono (by omega)))
                            have Hbox16 := hide (Hbox15.out.below hb16 (by omega))
                            have Hboy16 := hide (Hboy15.out.below hb16 (by omega))
                            clear hb16 Hb15 Hra15 Hrb15 Hrv15 Hbox15 Hboy15
                            obtain ⟨r, hr⟩ : ∃ r, valE lv (binT 6 t t2) now next = r := ⟨_, rfl⟩
                            have Hvc := hide hr
                            rw [hr]
                            clear hr Hrt Hrvm
                            obtain ⟨pc, xc⟩ := r
                            simp only
                            have ka : KidIs w16 d ⟨op, n, A, len, cap⟩ t := RE.more (by omega) _ _ _ _ _ _ _ Hra16.out
                            have kb : KidIs w16 d2 ⟨op2, n2, A2, len2, cap2⟩ t2 := RE.more (by omega) _ _ _ _ _ _ _ Hrb16.out
                            obtain ⟨dk, hrk⟩ := kids_re (laid2 (a := ⟨op, n, A, len, cap⟩) (b := ⟨op2, n2, A2, len2, cap2⟩) ka kb)
                            have hbl := (Below.refl w16.heap.size w16).alloc (Nat.le_refl _) (.cells #[.int .i64 op, .int .i64 n, .slice A len cap, .int .i64 op2, .int .i64 n2, .slice A2 len2 cap2] 25)
                            have hzl := alloc_size w16 (.cells #[.int .i64 op, .int .i64 n, .slice A len cap, .int .i64 op2, .int .i64 n2, .slice A2 len2 cap2] 25)
                            have Hrk := hide hrk
                            have Hbl := hide hbl
                            clear ka kb hrk hbl
                            obtain ⟨f0, f1, f2⟩ := Hbox16.out
                            obtain ⟨g0, g1, g2⟩ := Hboy16.out
                            go_wp2_with fail
                            clear f0 f1 f2 g0 g1 g2
                            refine (op_any _ _ _ _ _).mono ?_
                            rintro e w17 ⟨rfl, hb17⟩
                            have Hrt := hide (re_up (Hrk.out 7) hb17)
                            have hbq : Below w16.heap.size w16 w17 := Hbl.out.trans (hb17.mono (by omega))
                            clear hb17 Hrk Hbl hzl
                            have hz17 := hbq.size
                            have Hb17 := hide (Hb16.out.trans (hbq.mono (by have := Hb16.out.size; omega)))
                            have Hra17 := hide (Hra16.out.below (hbq.mono (by omega)))
                            have Hrb17 := hide (Hrb16.out.below (hbq.mono (by omega)))
                            have Hrv17 := hide (Hrv16.out.below (hbq.mono (by omega)))
                            have Hbox17 := hide (Hbox16.out.below hbq (by omega))
                            have Hboy17 := hide (Hboy16.out.below hbq (by omega))
                            clear hbq Hb16 Hra16 Hrb16 Hrv16 Hbox16 Hboy16
                            have Hrvm := hide (Hrv17.out.more (B' := w17.heap.size) (by omega))
                            go_wp2_with fail
                            refine (dval_any w17.heap.size Av nv cv lv dk 7 0 _ 2 2 (binT 7 t t2) now next w17 Ho.out.1 Ho.out.2.1 Ho.out.2.2.1 (Nat.le_refl _) Hrt.out Hrvm.out Ho.out.2.2.2).mono ?_
                            rintro e w18 ⟨rfl, hb18⟩
                            have hz18 := hb18.size
                            have Hb18 := hide (Hb17.out.trans (hb18.mono (by have := Hb17.out.size; omega)))
                            have Hra18 := hide (Hra17.out.below (hb18.mono (by omega)))
                            have Hrb18 := hide (Hrb17.out.below (hb18.mono (by omega)))
                            have Hrv18 := hide (Hrv17.out.below (hb18.mono (by omega)))
                            have Hbox18 := hide (Hbox17.out.below hb18 (by omega))
                            have Hboy18 := hide (Hboy17.out.below hb18 (by omega))
                            clear hb18 Hb17 Hra17 Hrb17 Hrv17 Hbox17 Hboy17
                            obtain ⟨r, hr⟩ : ∃ r, valE lv (binT 7 t t2) now next = r := ⟨_, rfl⟩
                            have Hvd := hide hr
                            rw [hr]
                            clear hr Hrt Hrvm
                            obtain ⟨pd, xd⟩ := r
                            simp only
                            have ka : KidIs w18 d ⟨op, n, A, len, cap⟩ t := RE.more (by omega) _ _ _ _ _ _ _ Hra18.out
                            have kb : KidIs w18 d2 ⟨op2, n2, A2, len2, cap2⟩ t2 := RE.more (by omega) _ _ _ _ _ _ _ Hrb18.out
                            obtain ⟨dk, hrk⟩ := kids_re (laid2 (a := ⟨op, n, A, len, cap⟩) (b := ⟨op2, n2, A2, len2, cap2⟩) ka kb)
                            have hbl := (Below.refl w18.heap.size w18).alloc (Nat.le_refl _) (.cells #[.int .i64 op, .int .i64 n, .slice A len cap, .int .i64 op2, .int .i64 n2, .slice A2 len2 cap2] 25)
                            have hzl := alloc_size w18 (.cells #[.int .i64 op, .int .i64 n, .slice A len cap, .int .i64 op2, .int .i64 n2, .slice A2 len2 cap2] 25)
                            have Hrk := hide hrk
                            have Hbl := hide hbl
                            clear ka kb hrk hbl
                            obtain ⟨f0, f1, f2⟩ := Hbox18.out
                            obtain ⟨g0, g1, g2⟩ := Hboy18.out
                            go_wp2_with fail
                            clear f0 f1 f2 g0 g1 g2
                            refine (op_any _ _ _ _ _).mono ?_
                            rintro e w19 ⟨rfl, hb19⟩
                            have Hrt := hide (re_up (Hrk.out 8) hb19)
                            have hbq : Below w18.heap.size w18 w19 := Hbl.out.trans (hb19.mono (by omega))
                            clear hb19 Hrk Hbl hzl
                            have hz19 := hbq.size
                            have Hb19 := hide (Hb18.out.trans (hbq.mono (by have := Hb18.out.size; omega)))
                            have Hra19 := hide (Hra18.out.below (hbq.mono (by omega)))
                            have Hrb19 := hide (Hrb18.out.below (hbq.mono (by omega)))
                            have Hrv19 := hide (Hrv18.out.below (hbq.mono (by omega)))
                            have Hbox19 := hide (Hbox18.out.below hbq (by omega))
                            have Hboy19 := hide (Hboy18.out.below hbq (by omega))
                            clear hbq Hb18 Hra18 Hrb18 Hrv18 Hbox18 Hboy18
                            have Hrvm := hide (Hrv19.out.more (B' := w19.heap.size) (by omega))
                            go_wp2_with fail
                            refine (dval_any w19.heap.size Av nv cv lv dk 8 0 _ 2 2 (binT 8 t t2) now next w19 Ho.out.1 Ho.out.2.1 Ho.out.2.2.1 (Nat.le_refl _) Hrt.out Hrvm.out Ho.out.2.2.2).mono ?_
                            rintro e w20 ⟨rfl, hb20⟩
                            have hz20 := hb20.size
                            have Hb20 := hide (Hb19.out.trans (hb20.mono (by have := Hb19.out.size; omega)))
                            have Hra20 := hide (Hra19.out.below (hb20.mono (by omega)))
                            have Hrb20 := hide (Hrb19.out.below (hb20.mono (by omega)))
                            have Hrv20 := hide (Hrv19.out.below (hb20.mono (by omega)))
                            have Hbox20 := hide (Hbox19.out.below hb20 (by omega))
                            have Hboy20 := hide (Hboy19.out.below hb20 (by omega))
                            clear hb20 Hb19 Hra19 Hrb19 Hrv19 Hbox19 Hboy19
                            obtain ⟨r, hr⟩ : ∃ r, valE lv (binT 8 t t2) now next = r := ⟨_, rfl⟩
                            have Hve := hide hr
                            rw [hr]
                            clear hr Hrt Hrvm
                            obtain ⟨pe, xe⟩ := r
                            simp only
                            have ka : KidIs w20 d ⟨op, n, A, len, cap⟩ t := RE.more (by omega) _ _ _ _ _ _ _ Hra20.out
                            have kb : KidIs w20 d2 ⟨op2, n2, A2, len2, cap2⟩ t2 := RE.more (by omega) _ _ _ _ _ _ _ Hrb20.out
                            obtain ⟨dk, hrk⟩ := kids_re (laid3 (a := ⟨op, n, A, len, cap⟩) (b := ⟨op2, n2, A2, len2, cap2⟩) (c := ⟨op, n, A, len, cap⟩) ka kb ka)
                            have hbl := (Below.refl w20.heap.size w20).alloc (Nat.le_refl _) (.cells #[.int .i64 op, .int .i64 n, .slice A len cap, .int .i64 op2, .int .i64 n2, .slice A2 len2 cap2, .int .i64 op, .int .i64 n, .slice A len cap] 25)
                            have hzl := alloc_size w20 (.cells #[.int .i64 op, .int .i64 n, .slice A len cap, .int .i64 op2, .int .i64 n2, .slice A2 len2 cap2, .int .i64 op, .int .i64 n, .slice A len cap] 25)
                            have Hrk := hide hrk
                            have Hbl := hide hbl
                            clear ka kb hrk hbl
                            obtain ⟨f0, f1, f2⟩ := Hbox20.out
                            obtain ⟨g0, g1, g2⟩ := Hboy20.out
                            go_wp2_with fail
                            clear f0 f1 f2 g0 g1 g2
                            refine (op_any _ _ _ _ _).mono ?_
                            rintro e w21 ⟨rfl, hb21⟩
                            have Hrt := hide (re_up (Hrk.out 15) hb21)
                            have hbq : Below w20.heap.size w20 w21 := Hbl.out.trans (hb21.mono (by omega))
                            clear hb21 Hrk Hbl hzl
                            have hz21 := hbq.size
                            have Hb21 := hide (Hb20.out.trans (hbq.mono (by have := Hb20.out.size; omega)))
                            have Hra21 := hide (Hra20.out.below (hbq.mono (by omega)))
                            have Hrb21 := hide (Hrb20.out.below (hbq.mono (by omega)))
                            have Hrv21 := hide (Hrv20.out.below (hbq.mono (by omega)))
                            have Hbox21 := hide (Hbox20.out.below hbq (by omega))
                            have Hboy21 := hide (Hboy20.out.below hbq (by omega))
                            clear hbq Hb20 Hra20 Hrb20 Hrv20 Hbox20 Hboy20
                            have Hrvm := hide (Hrv21.out.more (B' := w21.heap.size) (by omega))
                            go_wp2_with fail
                            refine (dval_any w21.heap.size Av nv cv lv dk 15 0 _ 3 3 (iteT t t2) now next w21 Ho.out.1 Ho.out.2.1 Ho.out.2.2.1 (Nat.le_refl _) Hrt.out Hrvm.out Ho.out.2.2.2).mono ?_
                            rintro e w22 ⟨rfl, hb22⟩
                            have hz22 := hb22.size
                            have Hb22 := hide (Hb21.out.trans (hb22.mono (by have := Hb21.out.size; omega)))
                            have Hra22 := hide (Hra21.out.below (hb22.mono (by omega)))
                            have Hrb22 := hide (Hrb21.out.below (hb22.mono (by omega)))
                            have Hrv22 := hide (Hrv21.out.below (hb22.mono (by omega)))
                            have Hbox22 := hide (Hbox21.out.below hb22 (by omega))
                            have Hboy22 := hide (Hboy21.out.below hb22 (by omega))
                            clear hb22 Hb21 Hra21 Hrb21 Hrv21 Hbox21 Hboy21
                            obtain ⟨r, hr⟩ : ∃ r, valE lv (iteT t t2) now next = r := ⟨_, rfl⟩
                            have Hvf := hide hr
                            rw [hr]
                            clear hr Hrt Hrvm
                            obtain ⟨pf, xf⟩ := r
                            simp only
                            clear Hra22 Hrb22 Hrv22 Hbox22 Hboy22
                            rcases Hl.out with ⟨q1, q2, q3, q4, q5, q6⟩ | ⟨q1, q2, q3, q4, q5, q6⟩ | ⟨q1, q2, q3, q4, q5, q6⟩
                            · rw [Hva.out] at q1
                              rw [Hvn.out] at q2
                              rw [Hvc.out] at q3
                              rw [Hvd.out] at q4
                              rw [Hve.out] at q5
                              rw [Hvf.out] at q6
                              injection q1 with q1 q1'; injection q2 with q2 q2'; injection q3 with q3 q3'; injection q4 with q4 q4'; injection q5 with q5 q5'; injection q6 with q6 q6'
                              subst q1; subst q1'; subst q2; subst q2'; subst q3; subst q3'; subst q4; subst q4'; subst q5; subst q5'; subst q6; subst q6'
                              clear Hva Hvb Hvn Hvc Hvd Hve Hvf Hl
                              go_wp2_with fail
                              refine (awake_any _).mono ?_
                              rintro e wz ⟨rfl, hbz⟩
                              have Hf := hide (Hb22.out.trans (hbz.mono (by have := Hb22.out.size; omega)))
                              clear hbz
                              go_wp2_with fail
                              go_ret
                              exact ⟨rfl, Hf.out⟩
                            · rw [Hva.out] at q1
                              rw [Hvn.out] at q2
                              rw [Hvc.out] at q3
                              rw [Hvd.out] at q4
                              rw [Hve.out] at q5
                              rw [Hvf.out] at q6
                              rw [Hvb.out] at q4
                              injection q1 with q1 q1'; injection q2 with q2 q2'; injection q3 with q3 q3'; injection q4 with q4 q4'; injection q5 with q5 q5'; injection q6 with q6 q6'
                              subst q1; subst q1'; subst q2; subst q2'; subst q3; subst q3'; subst q4; subst q4'; subst q5; subst q5'; subst q6; subst q6'
                              clear Hva Hvb Hvn Hvc Hvd Hve Hvf Hl
                              go_wp2_with fail
                              refine (awake_any _).mono ?_
                              rintro e wz ⟨rfl, hbz⟩
                              have Hf := hide (Hb22.out.trans (hbz.mono (by have := Hb22.out.size; omega)))
                              clear hbz
                              go_wp2_with fail
                              go_ret
                              exact ⟨rfl, Hf.out⟩
                            · rw [Hva.out] at q1
                              rw [Hvn.out] at q2
                              rw [Hvc.out] at q3
                              rw [Hvd.out] at q4
                              rw [Hve.out] at q5
                              rw [Hvf.out] at q6
                              rw [Hvb.out] at q3
                              rw [Hvb.out] at q5
                              rw [Hvb.out] at q6
                              injection q1 with q1 q1'; injection q2 with q2 q2'; injection q3 with q3 q3'; injection q4 with q4 q4'; injection q5 with q5 q5'; injection q6 with q6 q6'
                              subst q1; subst q1'; subst q2; subst q2'; subst q3; subst q3'; subst q4; subst q4'; subst q5; subst q5'; subst q6; subst q6'
                              clear Hva Hvb Hvn Hvc Hvd Hve Hvf Hl
                              go_wp2_with fail
                              refine (awake_any _).mono ?_
                              rintro e wz ⟨rfl, hbz⟩
                              have Hf := hide (Hb22.out.trans (hbz.mono (by have := Hb22.out.size; omega)))
                              clear hbz
                              go_wp2_with fail
                              go_ret
                              exact ⟨rfl, Hf.out⟩
                · have hcb5 : decide (next < 0) = true := by simp; omega
                  clear hc5
                  go_wp2_with fail
                  refine (awake_any _).mono ?_
                  rintro e wz ⟨rfl, hbz⟩
                  have Hf := hide (Hb5.out.trans (hbz.mono (by have := Hb5.out.size; omega)))
                  clear hbz
                  go_wp2_with fail
                  go_ret
                  exact ⟨rfl, Hf.out⟩
              · have hcb4 : decide (now < 0) = true := by simp; omega
                clear hc4
                go_wp2_with fail
                refine (awake_any _).mono ?_
                rintro e wz ⟨rfl, hbz⟩
                have Hf := hide (Hb5.out.trans (hbz.mono (by have := Hb5.out.size; omega)))
                clear hbz
                go_wp2_with fail
                go_ret
                exact ⟨rfl, Hf.out⟩
            · have hcb3 : (u1 != 1) = true := by simp [hc3]
              clear hc3
              go_wp2_with fail
              refine (awake_any _).mono ?_
              rintro e wz ⟨rfl, hbz⟩
              have Hf := hide (Hb5.out.trans (hbz.mono (by have := Hb5.out.size; omega)))
              clear hbz
              go_wp2_with fail
              go_ret
              exact ⟨rfl, Hf.out⟩
          · have hcb2 : (s1 != 1) = true := by simp [hc2]
            clear hc2
            go_wp2_with fail
            refine (awake_any _).mono ?_
            rintro e wz ⟨rfl, hbz⟩
            have Hf := hide (Hb5.out.trans (hbz.mono (by have := Hb5.out.size; omega)))
            clear hbz
            go_wp2_with fail
            go_ret
            exact ⟨rfl, Hf.out⟩
        · have hcb1 : (u2 != 0) = true := by simp [hc1]
          clear hc1
          go_wp2_with fail
          refine (awake_any _).mono ?_
          rintro e wz ⟨rfl, hbz⟩
          have Hf := hide (Hb5.out.trans (hbz.mono (by have := Hb5.out.size; omega)))
          clear hbz
          go_wp2_with fail
          go_ret
          exact ⟨rfl, Hf.out⟩
      · have hcb0 : (s2 != 0) = true := by simp [hc0]
        clear hc0
        go_wp2_with fail
        refine (awake_any _).mono ?_
        rintro e wz ⟨rfl, hbz⟩
        have Hf := hide (Hb5.out.trans (hbz.mono (by have := Hb5.out.size; omega)))
        clear hbz
        go_wp2_with fail
        go_ret
        exact ⟨rfl, Hf.out⟩
end Go.Proofs.Ytkjclofkfmkbdaa
