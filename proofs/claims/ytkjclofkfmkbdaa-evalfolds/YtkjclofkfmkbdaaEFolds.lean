/- The walk of the statement EvalFolds. -/
import Derived.Test.YtkjclofkfmkbdaaECalls
namespace Go.Proofs.Ytkjclofkfmkbdaa
open Go.RowKit Ex
open Go.Sort (grow)
set_option linter.unusedSimpArgs false
set_option linter.unusedVariables false

/- a newly folded expression held against one that was there -/
theorem c_same1 {W w' : World} {B : Nat} {d1 d2 : Nat} {o1 m1 o2 m2 : Int} {O1 O2 : Option Addr} {k1 c1 k2 c2 : Nat} {t1 t2 : T} (hB : B ≤ W.heap.size) (h1 : Hid (RE w' w'.heap.size d1 o1 m1 O1 k1 c1 t1)) (h2 : Hid (RE W B d2 o2 m2 O2 k2 c2 t2)) (hs : Hid (Below W.heap.size W w')) :
    Calls Try.prog 17 #[.agg #[.int .i64 o1, .int .i64 m1, .slice O1 k1 c1], .agg #[.int .i64 o2, .int .i64 m2, .slice O2 k2 c2]] w' fun e w'' => e = .returned (.bool (sameE t1 t2)) ∧ Hid (Below w'.heap.size w' w'') ∧ Hid (Below W.heap.size W w'') :=
  on_w hs (same_any w'.heap.size d1 o1 m1 O1 k1 c1 t1 d2 o2 m2 O2 k2 c2 t2 w' (Nat.le_refl _) h1.out (RE.more (re_w hB h2 hs).1 _ _ _ _ _ _ _ (re_w hB h2 hs).2))
theorem keep6 {W w' : World} {op n op2 n2 : Int} {A A2 : Option Addr} {len cap len2 cap2 : Nat} {b b2 : Nat} (Hb1 : Hid (Box3 W b op n A len cap)) (Hb2 : Hid (Box3 W b2 op2 n2 A2 len2 cap2)) (h1 : b < W.heap.size) (h2 : b2 < W.heap.size) (hs : Hid (Below W.heap.size W w')) :
    w'.cell? ⟨b, 0, none⟩ = some (.int .i64 op) ∧ w'.cell? ⟨b, 1, none⟩ = some (.int .i64 n) ∧ w'.cell? ⟨b, 2, none⟩ = some (.slice A len cap) ∧
    w'.cell? ⟨b2, 0, none⟩ = some (.int .i64 op2) ∧ w'.cell? ⟨b2, 1, none⟩ = some (.int .i64 n2) ∧ w'.cell? ⟨b2, 2, none⟩ = some (.slice A2 len2 cap2) := by
  obtain ⟨a, b, c⟩ := Hb1.out.below hs.out h1
  obtain ⟨d, e, f⟩ := Hb2.out.below hs.out h2
  exact ⟨a, b, c, d, e, f⟩

set_option maxRecDepth 100000 in
set_option maxHeartbeats 4000000 in
theorem efolds_any (B : Nat) (Av : Option Addr) (nv cv : Nat) (lv : List Dom.V) (d : Nat) (op n : Int) (A : Option Addr) (len cap : Nat) (t : T) (now next : Int) (w : World) (ho : OkV nv cv lv) (hB : B ≤ w.heap.size) (hre : RE w B d op n A len cap t) (hrv : Dom.RV w B Av nv lv) :
    Calls Try.prog 4 #[.slice Av nv cv, .agg #[.int .i64 op, .int .i64 n, .slice A len cap], .int .i64 now, .int .i64 next] w fun e w' => e = .returned (.bool true) ∧ Below w.heap.size w w' := by
  have hbx : Below w.heap.size w (w.alloc (.cells #[.int .i64 op, .int .i64 n, .slice A len cap] 25)) := (Below.refl _ _).alloc (Nat.le_refl _) _
  have Hre := hide (hre.below (hbx.mono hB))
  have Hrv := hide (hrv.below (hbx.mono hB))
  have Hbox := hide (box_new w op n A len cap 25)
  have hz0 : w.heap.size + 1 ≤ (w.alloc (.cells #[.int .i64 op, .int .i64 n, .slice A len cap] 25)).heap.size := by simp
  have Hbx := hide hbx
  have Ho := hide ho
  clear hre hrv hbx ho
  obtain ⟨h1a, h1b⟩ := vheavy_bd lv
  obtain ⟨h2a, h2b⟩ := heavy_bd t
  go_enter Try.func4, Try.ntmps4
  go_wp2_with fail
  generalize w.alloc (.cells #[.int .i64 op, .int .i64 n, .slice A len cap] 25) = W at *
  have hBW : B ≤ W.heap.size := by omega
  have C0 := cell_regrown Hbox.out.1
  have C1 := cell_regrown Hbox.out.2.1
  have C2 := cell_regrown Hbox.out.2.2
  by_cases hh : 0 < Dom.heavyGo 0 lv + heavyE t
  · have hhb : decide (0 < Dom.heavyGo 0 lv + heavyE t) = true := by simp [hh]
    refine wp_region_quiet_below (by kernel_rfl) (by kernel_rfl) ?_
    repeat (go_big_quiet_step (first | (go_at_call 9; exact q_vheavy hBW Ho (by assumption)) | (go_at_call 10; exact q_heavy hBW (by assumption)) | (go_at_call 16; exact q_rmayE hBW (by assumption))))
    refine wpQuiet_nil ?_
    intro w3 hw3
    obtain ⟨p, hp⟩ := hw3
    have hb3 : Below W.heap.size W w3 := by rw [hp]; exact below_regrown W p.d p.os
    have hz3 := hb3.size
    have Hb3 := hide (Hbx.out.trans (hb3.mono (by omega)))
    have Hre3 := hide (Hre.out.below (hb3.mono hBW))
    have Hrv3 := hide (Hrv.out.below (hb3.mono hBW))
    have Hbox3 := hide (Hbox.out.below hb3 (by omega))
    have hz4 : w.heap.size + 1 ≤ w3.heap.size := by omega
    clear hp hb3 C0 C1 C2 Hbx Hre Hrv Hbox hBW hz3 hz0 W
    have hBW : B ≤ w3.heap.size := by omega
    clear Hre3 Hrv3 Hbox3
    go_wp2_with fail
    refine (awake_any _).mono ?_
    rintro e w4 ⟨rfl, hb4⟩
    have Hf := hide (Hb3.out.trans (hb4.mono (by omega)))
    clear hb4
    go_wp2_with fail
    go_ret
    exact ⟨rfl, Hf.out⟩
  · have hhb : decide (0 < Dom.heavyGo 0 lv + heavyE t) = false := by simp; omega
    by_cases hm : mayE t = 0
    · have hmb : (mayE t != 0) = false := by simp [hm]
      have Hm := hide hm
      clear hm
      refine wp_region_quiet_below (by kernel_rfl) (by kernel_rfl) ?_
      repeat (go_big_quiet_step (first | (go_at_call 9; exact q_vheavy hBW Ho (by assumption)) | (go_at_call 10; exact q_heavy hBW (by assumption)) | (go_at_call 16; exact q_rmayE hBW (by assumption))))
      refine wpQuiet_nil ?_
      intro w3 hw3
      obtain ⟨p, hp⟩ := hw3
      have hb3 : Below W.heap.size W w3 := by rw [hp]; exact below_regrown W p.d p.os
      have hz3 := hb3.size
      have Hb3 := hide (Hbx.out.trans (hb3.mono (by omega)))
      have Hre3 := hide (Hre.out.below (hb3.mono hBW))
      have Hrv3 := hide (Hrv.out.below (hb3.mono hBW))
      have Hbox3 := hide (Hbox.out.below hb3 (by omega))
      have hz4 : w.heap.size + 1 ≤ w3.heap.size := by omega
      clear hp hb3 C0 C1 C2 Hbx Hre Hrv Hbox hBW hz3 hz0 W
      have hBW : B ≤ w3.heap.size := by omega
      obtain ⟨f0, f1, f2⟩ := Hbox3.out
      go_wp2_with fail
      clear h1a h1b h2a h2b hh hhb
      refine (dfold_any B Av nv cv lv d op n A len cap t w3 Ho.out.1 Ho.out.2.1 Ho.out.2.2.1 hBW Hre3.out Hrv3.out Ho.out.2.2.2 Hm.out).mono ?_
      rintro e w4 ⟨⟨fo, fm, fO, fk, fc⟩, fd, rfl, hrf, hb4⟩
      simp only at hrf ⊢
      have hz5 := hb4.size
      have Hb4 := hide (Hb3.out.trans (hb4.mono (by omega)))
      have Hre4 := hide (RE.more (B' := w4.heap.size) (by omega) _ _ _ _ _ _ _ (Hre3.out.below (hb4.mono hBW)))
      have Hrv4 := hide ((Hrv3.out.below (hb4.mono hBW)).more (B' := w4.heap.size) (by omega))
      have Hbox4 := hide (Hbox3.out.below hb4 (by omega))
      have Hrf4 := hide hrf
      clear hb4 f0 f1 f2 Hb3 Hre3 Hrv3 Hbox3 hrf
      have hbF := (Below.refl w4.heap.size w4).alloc (Nat.le_refl _) (.cells #[.int .i64 fo, .int .i64 fm, .slice fO fk fc] 25)
      have HboxF := hide (box_new w4 fo fm fO fk fc 25)
      have Hre5 := hide (Hre4.out.below hbF)
      have Hrf5 := hide (Hrf4.out.below hbF)
      have Hrv5 := hide (Hrv4.out.below hbF)
      have Hb5 := hide (Hb4.out.trans (hbF.mono (by omega)))
      have Hbox5 := hide (Hbox4.out.below hbF (by omega))
      have hz6a : w4.heap.size + 1 ≤ (w4.alloc (.cells #[.int .i64 fo, .int .i64 fm, .slice fO fk fc] 25)).heap.size := by simp
      clear Hb4 Hre4 Hrv4 Hbox4 hbF Hrf4
      obtain ⟨f0, f1, f2⟩ := Hbox5.out
      obtain ⟨g0, g1, g2⟩ := HboxF.out
      go_wp2_with fail
      generalize w4.alloc (.cells #[.int .i64 fo, .int .i64 fm, .slice fO fk fc] 25) = w5 at *
      generalize hN : w4.heap.size = N4 at *
      clear hN
      refine (dval_any N4 Av nv cv lv d op n A len cap t now next w5 Ho.out.1 Ho.out.2.1 Ho.out.2.2.1 (by omega) Hre5.out Hrv5.out Ho.out.2.2.2).mono ?_
      rintro e w6 ⟨rfl, hb6⟩
      have hz6 := hb6.size
      have Hre6 := hide (Hre5.out.below (hb6.mono (by omega)))
      have Hrf6 := hide (Hrf5.out.below (hb6.mono (by omega)))
      have Hrv6 := hide (Hrv5.out.below (hb6.mono (by omega)))
      have Hb6 := hide (Hb5.out.trans (hb6.mono (by omega)))
      have Hbox6 := hide (Hbox5.out.below hb6 (by omega))
      have HboxG := hide (HboxF.out.below hb6 (by omega))
      clear hb6 f0 f1 f2 g0 g1 g2 Hre5 Hrf5 Hrv5 Hb5 Hbox5 HboxF
      have Hve := hide (foldE_val (l := lv) Hm.out now next)
      generalize valE lv t now next = r at *
      obtain ⟨r1, r2⟩ := r
      simp only
      obtain ⟨f0, f1, f2⟩ := Hbox6.out
      obtain ⟨g0, g1, g2⟩ := HboxG.out
      go_wp2_with fail
      refine (dval_any N4 Av nv cv lv fd fo fm fO fk fc (foldE lv t) now next w6 Ho.out.1 Ho.out.2.1 Ho.out.2.2.1 (by omega) Hrf6.out Hrv6.out Ho.out.2.2.2).mono ?_
      rintro e w7 ⟨rfl, hb7⟩
      rw [Hve.out]
      have hz7 := hb7.size
      have Hre7 := hide (Hre6.out.below (hb7.mono (by omega)))
      have Hrf7 := hide (Hrf6.out.below (hb7.mono (by omega)))
      have Hrv7 := hide (Hrv6.out.below (hb7.mono (by omega)))
      have Hb7 := hide (Hb6.out.trans (hb7.mono (by omega)))
      have Hbox7 := hide (Hbox6.out.below hb7 (by omega))
      have HboxH := hide (HboxG.out.below hb7 (by omega))
      clear hb7 f0 f1 f2 g0 g1 g2 Hre6 Hrf6 Hrv6 Hb6 Hbox6 HboxG Hve
      simp only
      go_wp2_with fail
      have hBW7 : N4 ≤ w7.heap.size := by omega
      have Hdr : Hid (Below w7.heap.size w7 w7.drew) := hide (Below.refl _ _).drew
      have Hmf := hide (foldE_may (l := lv) Hm.out)
      have Hag := hide (foldE_again (l := lv) Hm.out)
      have Hsm : Hid (sameE (foldE lv (foldE lv t)) (foldE lv t) = true) := hide (by rw [Hag.out]; exact sameE_refl Hmf.out)
      have hnd : decide (nodesE (foldE lv t) ≤ nodesE t) = true := by simp; exact foldE_nodes Hm.out
      go_region_held3 (fun w' => w'.cell? ⟨w.heap.size, 0, none⟩ = some (.int .i64 op) ∧ w'.cell? ⟨w.heap.size, 1, none⟩ = some (.int .i64 n) ∧ w'.cell? ⟨w.heap.size, 2, none⟩ = some (.slice A len cap) ∧ w'.cell? ⟨N4, 0, none⟩ = some (.int .i64 fo) ∧ w'.cell? ⟨N4, 1, none⟩ = some (.int .i64 fm) ∧ w'.cell? ⟨N4, 2, none⟩ = some (.slice fO fk fc))
        (first | exact keep6 Hbox7 HboxH (by omega) (by omega) (by assumption))
        (first
          | (go_at_call 18; refine (c_dfold hBW7 Ho Hrv7 Hrf7 Hmf (by assumption)).mono ?_; rintro e w1 ⟨ho, hm, hO, hk, hc, hd, rfl, hr1, hq1, hb1⟩)
          | (go_at_call 17; refine (c_same1 hBW7 hr1 Hrf7 (by assumption)).mono ?_; rintro e w1 ⟨rfl, hq1, hb1⟩; rw [Hsm.out])
          | (go_at_call 20; refine (c_nodes hBW7 (by assumption) (by assumption)).mono ?_; rintro e w1 ⟨rfl, hq1, hb1⟩)
          | (go_at_call 11; refine (c_awake (by assumption)).mono ?_; rintro e w1 ⟨rfl, hq1, hb1⟩))
      go_wp2_with fail
      go_ret
      exact ⟨rfl, Hb7.out.trans (hb1.out.mono (by omega))⟩
    · have hmb : (mayE t != 0) = true := by simp [hm]
      clear hm
      refine wp_region_quiet_below (by kernel_rfl) (by kernel_rfl) ?_
      repeat (go_big_quiet_step (first | (go_at_call 9; exact q_vheavy hBW Ho (by assumption)) | (go_at_call 10; exact q_heavy hBW (by assumption)) | (go_at_call 16; exact q_rmayE hBW (by assumption))))
      refine wpQuiet_nil ?_
      intro w3 hw3
      obtain ⟨p, hp⟩ := hw3
      have hb3 : Below W.heap.size W w3 := by rw [hp]; exact below_regrown W p.d p.os
      have hz3 := hb3.size
      have Hb3 := hide (Hbx.out.trans (hb3.mono (by omega)))
      have Hre3 := hide (Hre.out.below (hb3.mono hBW))
      have Hrv3 := hide (Hrv.out.below (hb3.mono hBW))
      have Hbox3 := hide (Hbox.out.below hb3 (by omega))
      have hz4 : w.heap.size + 1 ≤ w3.heap.size := by omega
      clear hp hb3 C0 C1 C2 Hbx Hre Hrv Hbox hBW hz3 hz0 W
      have hBW : B ≤ w3.heap.size := by omega
      clear Hre3 Hrv3 Hbox3
      go_wp2_with fail
      refine (awake_any _).mono ?_
      rintro e w4 ⟨rfl, hb4⟩
      have Hf := hide (Hb3.out.trans (hb4.mono (by omega)))
      clear hb4
      go_wp2_with fail
      go_ret
      exact ⟨rfl, Hf.out⟩
end Go.Proofs.Ytkjclofkfmkbdaa
