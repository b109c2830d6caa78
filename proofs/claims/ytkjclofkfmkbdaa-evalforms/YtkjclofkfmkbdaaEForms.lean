/- The walk of the statement EvalForms. -/
import Derived.Test.YtkjclofkfmkbdaaECalls
namespace Go.Proofs.Ytkjclofkfmkbdaa
open Go.RowKit Ex
open Go.Sort (grow)
set_option linter.unusedSimpArgs false
set_option linter.unusedVariables false

set_option maxRecDepth 100000 in
set_option maxHeartbeats 4000000 in
theorem eforms_any (B : Nat) (Av : Option Addr) (nv cv : Nat) (lv : List Dom.V) (d : Nat) (op n : Int) (A : Option Addr) (len cap : Nat) (t : T) (now next : Int) (w : World) (ho : OkV nv cv lv) (hB : B ≤ w.heap.size) (hre : RE w B d op n A len cap t) (hrv : Dom.RV w B Av nv lv) :
    Calls Try.prog 3 #[.slice Av nv cv, .agg #[.int .i64 op, .int .i64 n, .slice A len cap], .int .i64 now, .int .i64 next] w fun e w' => e = .returned (.bool true) ∧ Below w.heap.size w w' := by
  have hbx : Below w.heap.size w (w.alloc (.cells #[.int .i64 op, .int .i64 n, .slice A len cap] 25)) := (Below.refl _ _).alloc (Nat.le_refl _) _
  have Hre := hide (hre.below (hbx.mono hB))
  have Hrv := hide (hrv.below (hbx.mono hB))
  have Hbox := hide (box_new w op n A len cap 25)
  have hz0 : w.heap.size + 1 ≤ (w.alloc (.cells #[.int .i64 op, .int .i64 n, .slice A len cap] 25)).heap.size := by simp
  have Hbx := hide hbx
  have Ho := hide ho
  clear hre hrv hbx ho
  obtain ⟨h1a, h1b⟩ := vheavy_bd lv
  obtain ⟨h2a, h2b⟩ := heavy_bd t
  go_enter Try.func3, Try.ntmps3
  go_wp2_with fail
  generalize w.alloc (.cells #[.int .i64 op, .int .i64 n, .slice A len cap] 25) = W at *
  have hBW : B ≤ W.heap.size := by omega
  have C0 := cell_regrown Hbox.out.1
  have C1 := cell_regrown Hbox.out.2.1
  have C2 := cell_regrown Hbox.out.2.2
  refine wp_region_quiet_below (by kernel_rfl) (by kernel_rfl) ?_
  repeat (go_big_quiet_step (first | (go_at_call 9; exact q_vheavy hBW Ho (by assumption)) | (go_at_call 10; exact q_heavy hBW (by assumption))))
  refine wpQuiet_nil ?_
  intro w3 hw3
  obtain ⟨p, hp⟩ := hw3
  have hb3 : Below W.heap.size W w3 := by rw [hp]; exact below_regrown W p.d p.os
  have hz3 := hb3.size
  have Hb3 := hide (Hbx.out.trans (hb3.mono (by omega)))
  have Hre3 := hide (Hre.out.below (hb3.mono hBW))
  have Hrv3 := hide (Hrv.out.below (hb3.mono hBW))
  have Hbox3 := hide (Hbox.out.below hb3 (by omega))
  have hz4 : w.heap.size + 1 ≤ w3.heap.size := by omega
  clear hp hb3 C0 C1 C2 Hbx Hre Hrv Hbox hBW hz3 hz0 W
  have hBW : B ≤ w3.heap.size := by omega
  by_cases hh : 0 < Dom.heavyGo 0 lv + heavyE t
  · have hhb : decide (0 < Dom.heavyGo 0 lv + heavyE t) = true := by simp [hh]
    clear Hre3 Hrv3 Hbox3
    go_wp2_with fail
    refine (awake_any _).mono ?_
    rintro e w4 ⟨rfl, hb4⟩
    have Hf := hide (Hb3.out.trans (hb4.mono (by omega)))
    clear hb4
    go_wp2_with fail
    go_ret
    exact ⟨rfl, Hf.out⟩
  · have hhb : decide (0 < Dom.heavyGo 0 lv + heavyE t) = false := by simp; omega
    obtain ⟨f0, f1, f2⟩ := Hbox3.out
    go_wp2_with fail
    clear h1a h1b h2a h2b hh hhb
    refine (dval_any B Av nv cv lv d op n A len cap t now next w3 Ho.out.1 Ho.out.2.1 Ho.out.2.2.1 hBW Hre3.out Hrv3.out Ho.out.2.2.2).mono ?_
    rintro e w4 ⟨rfl, hb4⟩
    have hz5 := hb4.size
    have Hb4 := hide (Hb3.out.trans (hb4.mono (by omega)))
    have Hre4 := hide (Hre3.out.below (hb4.mono hBW))
    have Hrv4 := hide (Hrv3.out.below (hb4.mono hBW))
    have Hbox4 := hide (Hbox3.out.below hb4 (by omega))
    clear hb4 f0 f1 f2 Hb3 Hre3 Hrv3 Hbox3
    obtain ⟨r, hr⟩ : ∃ r, valE lv t now next = r := ⟨_, rfl⟩
    have Hr := hide hr
    rw [hr]
    clear hr
    obtain ⟨r1, r2⟩ := r
    simp only
    obtain ⟨f0, f1, f2⟩ := Hbox4.out
    go_wp2_with fail
    refine (rval_any B Av nv cv lv d op n A len cap t now next w4 Ho.out.1 Ho.out.2.1 Ho.out.2.2.1 (by omega) Hre4.out Hrv4.out Ho.out.2.2.2).mono ?_
    rintro e w5 ⟨rfl, hb5⟩
    rw [Hr.out]
    have hz6 := hb5.size
    have Hb5 := hide (Hb4.out.trans (hb5.mono (by omega)))
    have Hre5 := hide (Hre4.out.below (hb5.mono (by omega)))
    have Hrv5 := hide (Hrv4.out.below (hb5.mono (by omega)))
    have Hbox5 := hide (Hbox4.out.below hb5 (by omega))
    have hBW5 : B ≤ w5.heap.size := by omega
    clear hb5 f0 f1 f2 Hb4 Hre4 Hrv4 Hbox4 Hr
    simp only
    go_wp2_with fail
    by_cases hm : mayE t = 0
    · have hmb : (mayE t != 0) = false := by simp [hm]
      have Hm := hide hm
      have Hsm := hide (sameE_refl (foldE_may (l := lv) hm))
      clear hm
      have Hdr : Hid (Below w5.heap.size w5 w5.drew) := hide (Below.refl _ _).drew
      go_region_held3 (fun w' => w'.cell? ⟨w.heap.size, 0, none⟩ = some (.int .i64 op) ∧ w'.cell? ⟨w.heap.size, 1, none⟩ = some (.int .i64 n) ∧ w'.cell? ⟨w.heap.size, 2, none⟩ = some (.slice A len cap))
        (first | exact keep3 Hbox5 (by omega) (by assumption))
        (first
          | (go_at_call 14; refine (c_dtrue hBW5 Ho Hrv5 Hre5 (by assumption)).mono ?_; rintro e w1 ⟨rfl, hq1, hb1⟩)
          | (go_at_call 15; refine (c_rtrue hBW5 Ho Hrv5 Hre5 (by assumption)).mono ?_; rintro e w1 ⟨rfl, hq1, hb1⟩)
          | (go_at_call 16; refine (c_rmay hBW5 Hre5 (by assumption)).mono ?_; rintro e w1 ⟨rfl, hq1, hb1⟩)
          | (go_at_call 18; refine (c_dfold hBW5 Ho Hrv5 Hre5 Hm (by assumption)).mono ?_; rintro e w1 ⟨fo, fm, fO, fk, fc, fd, rfl, hr1, hq1, hb1⟩)
          | (go_at_call 19; refine (c_rfold hBW5 Ho Hrv5 Hre5 (by assumption)).mono ?_; rintro e w1 ⟨go, gm, gO, gk, gc, gd, rfl, hr1, hq1, hb1⟩)
          | (go_at_call 17; refine (c_same2 (by assumption) (by assumption) (by assumption) (by assumption)).mono ?_; rintro e w1 ⟨rfl, hq1, hb1⟩; rw [Hsm.out])
          | (go_at_call 11; refine (c_awake (by assumption)).mono ?_; rintro e w1 ⟨rfl, hq1, hb1⟩))
      go_wp2_with fail
      go_ret
      exact ⟨rfl, Hb5.out.trans (hb1.out.mono (by omega))⟩
    · have hmb : (mayE t != 0) = true := by simp [hm]
      clear hm
      have C0 := cell_regrown Hbox5.out.1
      have C1 := cell_regrown Hbox5.out.2.1
      have C2 := cell_regrown Hbox5.out.2.2
      refine wp_region_quiet_below (by kernel_rfl) (by kernel_rfl) ?_
      repeat (go_big_quiet_step (first | (go_at_call 14; exact q_dtrue hBW5 Ho (by assumption) (by assumption)) | (go_at_call 15; exact q_rtrue hBW5 Ho (by assumption) (by assumption)) | (go_at_call 16; exact q_rmayE hBW5 (by assumption)) | (go_at_call 11; exact q_awake4)))
      refine wpQuiet_nil ?_
      intro w6 hw6
      obtain ⟨p, hp⟩ := hw6
      have hb6 : Below w5.heap.size w5 w6 := by rw [hp]; exact below_regrown w5 p.d p.os
      have Hf := hide (Hb5.out.trans (hb6.mono (by omega)))
      clear hp hb6 C0 C1 C2
      go_wp2_with fail
      go_ret
      exact ⟨rfl, Hf.out⟩
end Go.Proofs.Ytkjclofkfmkbdaa
