/- The walk of the statement SortKinds. -/
import Derived.Test.YtdjllpejonfpgaaSAwake
namespace Go.Proofs.Ytdjllpejonfpgaa
open Go.RowKit Ex
open Go.Sort (grow)
set_option linter.unusedSimpArgs false
set_option linter.unusedVariables false

def pairT (x : Int) (t u : T) : T := .mk x 0 [t, u]
theorem sort_ok {l : List Dom.V} {t : T} (h : (sortE l t).2 = 0) : Dom.mayL l = 0 ∧ mayE t = 0 ∧ sortE l t = tyT l t := by
  unfold sortE at h ⊢
  by_cases hm : Dom.mayL l = 0
  · rw [if_pos hm] at h ⊢
    by_cases he : mayE t = 0
    · rw [if_pos he] at h ⊢; exact ⟨hm, he, rfl⟩
    · rw [if_neg he] at h; exact absurd h he
  · rw [if_neg hm] at h; exact absurd h hm
theorem sort_good {l : List Dom.V} {t : T} (hm : Dom.mayL l = 0) (he : mayE t = 0) : sortE l t = tyT l t := by
  unfold sortE; rw [if_pos hm, if_pos he]
theorem pair_sort {l : List Dom.V} {x : Int} {t u : T} (h1 : (sortE l t).2 = 0) (h2 : (sortE l u).2 = 0) (h3 : mayE (pairT x t u) = 0) : sortE l (pairT x t u) = tyN l x 0 [(sortE l t).1, (sortE l u).1] := by
  obtain ⟨hm, ht, et⟩ := sort_ok h1
  obtain ⟨_, hu, eu⟩ := sort_ok h2
  rw [sort_good hm h3]
  rw [et] at h1 ⊢
  rw [eu] at h2 ⊢
  unfold pairT
  rw [tyT, tyK, tyK, tyK, if_pos h1, if_pos h2]
  simp
theorem pair_re {w : World} {B d : Nat} {x op n : Int} {A : Option Addr} {len cap : Nat} {t : T} {d2 : Nat} {op2 n2 : Int} {A2 : Option Addr} {len2 cap2 : Nat} {t2 : T} (hB : B ≤ w.heap.size) (h1 : RE w B d op n A len cap t) (h2 : RE w B d2 op2 n2 A2 len2 cap2 t2) :
    RE (w.alloc (.cells #[.int .i64 op, .int .i64 n, .slice A len cap, .int .i64 op2, .int .i64 n2, .slice A2 len2 cap2] 25)) (w.heap.size + 1) (d + d2 + 1) x 0 (some ⟨w.heap.size, 0, none⟩) 2 2 (pairT x t t2) := by
  have hb : Below w.heap.size w (w.alloc (.cells #[.int .i64 op, .int .i64 n, .slice A len cap, .int .i64 op2, .int .i64 n2, .slice A2 len2 cap2] 25)) := (Below.refl _ _).alloc (Nat.le_refl _) _
  have k1 := RE.more (B' := w.heap.size + 1) (by omega) _ _ _ _ _ _ _ ((h1.below (hb.mono hB)).ups d2)
  have k2 := RE.more (B' := w.heap.size + 1) (by omega) _ _ _ _ _ _ _ ((h2.below (hb.mono hB)).ups d)
  rw [Nat.add_comm d2 d] at k2
  refine RE.node rfl (by omega) (by unfold maxLen; omega) (by omega) (fun k u hu => ?_)
  match k, hu with
  | 0, hu => simp at hu; subst hu; exact ⟨_, _, _, _, _, by simp [CellE, go_sem], k1⟩
  | 1, hu => simp at hu; subst hu; exact ⟨_, _, _, _, _, by simp [CellE, go_sem], k2⟩
  | k + 2, hu => simp at hu
theorem two_box25 (w : World) (op n : Int) (A : Option Addr) (len cap : Nat) (op2 n2 : Int) (A2 : Option Addr) (len2 cap2 : Nat) :
    Box3 ((w.alloc (.cells #[.int .i64 op, .int .i64 n, .slice A len cap] 25)).alloc (.cells #[.int .i64 op2, .int .i64 n2, .slice A2 len2 cap2] 25)) w.heap.size op n A len cap ∧ Box3 ((w.alloc (.cells #[.int .i64 op, .int .i64 n, .slice A len cap] 25)).alloc (.cells #[.int .i64 op2, .int .i64 n2, .slice A2 len2 cap2] 25)) (w.heap.size + 1) op2 n2 A2 len2 cap2 := by
  refine ⟨(box_new w op n A len cap 25).below ((Below.refl (w.heap.size + 1) _).alloc (by simp) _) (by omega), ?_⟩
  have := box_new (w.alloc (.cells #[.int .i64 op, .int .i64 n, .slice A len cap] 25)) op2 n2 A2 len2 cap2 25
  simpa using this

set_option maxRecDepth 100000 in
set_option maxHeartbeats 40000000 in
theorem kinds_any (B : Nat) (Av : Option Addr) (nv cv : Nat) (lv : List Dom.V) (d : Nat) (op n : Int) (A : Option Addr) (len cap : Nat) (t : T) (d2 : Nat) (op2 n2 : Int) (A2 : Option Addr) (len2 cap2 : Nat) (t2 : T) (x : Int) (w : World) (ho : OkV nv cv lv) (hB : B ≤ w.heap.size) (hre : RE w B d op n A len cap t) (hre2 : RE w B d2 op2 n2 A2 len2 cap2 t2) (hrv : Dom.RV w B Av nv lv) :
    Calls Try.prog 6 #[.slice Av nv cv, .agg #[.int .i64 op, .int .i64 n, .slice A len cap], .agg #[.int .i64 op2, .int .i64 n2, .slice A2 len2 cap2], .int .i64 x] w fun e w' => e = .returned (.bool true) ∧ Below w.heap.size w w' := by
  have hbx : Below w.heap.size w ((w.alloc (.cells #[.int .i64 op, .int .i64 n, .slice A len cap] 25)).alloc (.cells #[.int .i64 op2, .int .i64 n2, .slice A2 len2 cap2] 25)) := ((Below.refl _ _).alloc (Nat.le_refl _) _).alloc (by simp) _
  obtain ⟨bx1, bx2⟩ := two_box25 w op n A len cap op2 n2 A2 len2 cap2
  have hz0 : w.heap.size + 2 ≤ ((w.alloc (.cells #[.int .i64 op, .int .i64 n, .slice A len cap] 25)).alloc (.cells #[.int .i64 op2, .int .i64 n2, .slice A2 len2 cap2] 25)).heap.size := by simp
  have Hre := hide (hre.below (hbx.mono hB))
  have Hre2 := hide (hre2.below (hbx.mono hB))
  have Hrv := hide (hrv.below (hbx.mono hB))
  have Hbx1 := hide bx1
  have Hbx2 := hide bx2
  have Hbx := hide hbx
  have Ho := hide ho
  clear hre hre2 hrv bx1 bx2 hbx ho
  obtain ⟨h0a, h0b⟩ := vheavy_bd lv
  obtain ⟨h1a, h1b⟩ := heavy_bd t
  obtain ⟨h2a, h2b⟩ := heavy_bd t2
  by_cases hgood : ¬ 0 < Dom.heavyGo 0 lv + heavyE t + heavyE t2 ∧ 6 ≤ x ∧ x ≤ 14
  · obtain ⟨g1, g2, g3⟩ := hgood
    have hhb : decide (0 < Dom.heavyGo 0 lv + heavyE t + heavyE t2) = false := by rw [decide_eq_false_iff_not]; exact g1
    have m1 : decide (x < 6) = false := by rw [decide_eq_false_iff_not]; omega
    have m2 : decide (14 < x) = false := by rw [decide_eq_false_iff_not]; omega
    go_enter Try.func6, Try.ntmps6
    go_wp2_with fail
    generalize (w.alloc (.cells #[.int .i64 op, .int .i64 n, .slice A len cap] 25)).alloc (.cells #[.int .i64 op2, .int .i64 n2, .slice A2 len2 cap2] 25) = W at *
    have hBW : B ≤ W.heap.size := by omega
    have C0 := cell_regrown Hbx1.out.1
    have C1 := cell_regrown Hbx1.out.2.1
    have C2 := cell_regrown Hbx1.out.2.2
    have E0 := cell_regrown Hbx2.out.1
    have E1 := cell_regrown Hbx2.out.2.1
    have E2 := cell_regrown Hbx2.out.2.2
    refine wp_region_quiet_below (by kernel_rfl) (by kernel_rfl) ?_
    repeat (go_big_quiet_step (first | (go_at_call 7; exact q_vheavy hBW Ho (by assumption)) | (go_at_call 8; exact q_heavy hBW (by assumption))))
    refine wpQuiet_nil ?_
    intro w3 hw3
    obtain ⟨p, hp⟩ := hw3
    have hb3 : Below W.heap.size W w3 := by rw [hp]; exact below_regrown W p.d p.os
    have hz3 := hb3.size
    have Hbx' := hide (Hbx.out.trans (hb3.mono (by omega)))
    have Hre' := hide (Hre.out.below (hb3.mono hBW))
    have Hre2' := hide (Hre2.out.below (hb3.mono hBW))
    have Hrv' := hide (Hrv.out.below (hb3.mono hBW))
    have Hbx1' := hide (Hbx1.out.below hb3 (by omega))
    have Hbx2' := hide (Hbx2.out.below hb3 (by omega))
    have hz4 : w.heap.size + 2 ≤ w3.heap.size := by omega
    clear hp hb3 C0 C1 C2 E0 E1 E2 Hbx Hre Hre2 Hrv Hbx1 Hbx2 hBW hz3 hz0 W
    have hBW : B ≤ w3.heap.size := by omega
    obtain ⟨a0, a1, a2⟩ := Hbx1'.out
    obtain ⟨b0, b1, b2⟩ := Hbx2'.out
    have hb4 : Below w3.heap.size w3 ((w3.alloc (.cells #[.int .i64 op, .int .i64 n, .slice A len cap, .int .i64 op2, .int .i64 n2, .slice A2 len2 cap2] 25)).alloc (.cells #[.int .i64 x, .int .i64 0, .slice (some ⟨w3.heap.size, 0, none⟩) 2 2] 25)) := ((Below.refl _ _).alloc (Nat.le_refl _) _).alloc (by simp) _
    have Hrj := hide ((pair_re (x := x) hBW Hre'.out Hre2'.out).below ((Below.refl (w3.heap.size + 1) (w3.alloc (.cells #[.int .i64 op, .int .i64 n, .slice A len cap, .int .i64 op2, .int .i64 n2, .slice A2 len2 cap2] 25))).alloc (by simp) (.cells #[.int .i64 x, .int .i64 0, .slice (some ⟨w3.heap.size, 0, none⟩) 2 2] 25)))
    have hbj := box_new (w3.alloc (.cells #[.int .i64 op, .int .i64 n, .slice A len cap, .int .i64 op2, .int .i64 n2, .slice A2 len2 cap2] 25)) x 0 (some ⟨w3.heap.size, 0, none⟩) 2 2 25
    have hzA : (w3.alloc (.cells #[.int .i64 op, .int .i64 n, .slice A len cap, .int .i64 op2, .int .i64 n2, .slice A2 len2 cap2] 25)).heap.size = w3.heap.size + 1 := by simp
    rw [hzA] at hbj
    have hzB : w3.heap.size + 2 ≤ ((w3.alloc (.cells #[.int .i64 op, .int .i64 n, .slice A len cap, .int .i64 op2, .int .i64 n2, .slice A2 len2 cap2] 25)).alloc (.cells #[.int .i64 x, .int .i64 0, .slice (some ⟨w3.heap.size, 0, none⟩) 2 2] 25)).heap.size := by simp
    obtain ⟨k0, k1, k2⟩ := Hbx1'.out.below hb4 (by omega)
    have Hbj := hide hbj
    have Hb4 := hide hb4
    clear hbj hb4 hzA
    go_wp2_with fail
    clear a0 a1 a2 b0 b1 b2 k0 k1 k2 h0a h0b h1a h1b h2a h2b hhb m1 m2 g1
    generalize (w3.alloc (.cells #[.int .i64 op, .int .i64 n, .slice A len cap, .int .i64 op2, .int .i64 n2, .slice A2 len2 cap2] 25)).alloc (.cells #[.int .i64 x, .int .i64 0, .slice (some ⟨w3.heap.size, 0, none⟩) 2 2] 25) = W4 at *
    have Hre4 := hide (Hre'.out.below (Hb4.out.mono hBW))
    have Hre24 := hide (Hre2'.out.below (Hb4.out.mono hBW))
    have Hrv4 := hide (Hrv'.out.below (Hb4.out.mono hBW))
    have Hbx14 := hide (Hbx1'.out.below Hb4.out (by omega))
    have Hbx24 := hide (Hbx2'.out.below Hb4.out (by omega))
    have Hbw4 := hide (Hbx'.out.trans (Hb4.out.mono (by omega)))
    clear Hre' Hre2' Hrv' Hbx1' Hbx2' Hbx' Hb4
    refine (of_any B Av nv cv lv d op n A len cap t W4 Ho.out.1 Ho.out.2.1 Ho.out.2.2.1 (by omega) Hre4.out Hrv4.out Ho.out.2.2.2).mono ?_
    rintro e w5 ⟨rfl, hb5⟩
    have hz5 := hb5.size
    have Hc5 := hide hb5
    obtain ⟨b0, b1, b2⟩ := Hbx24.out.below hb5 (by omega)
    clear hb5
    obtain ⟨r, hr⟩ : ∃ r, sortE lv t = r := ⟨_, rfl⟩
    have Hr := hide hr
    rw [hr]
    clear hr
    obtain ⟨s, e1⟩ := r
    simp only
    go_wp2_with fail
    refine (of_any B Av nv cv lv d2 op2 n2 A2 len2 cap2 t2 w5 Ho.out.1 Ho.out.2.1 Ho.out.2.2.1 (by omega) (Hre24.out.below (Hc5.out.mono (by omega))) (Hrv4.out.below (Hc5.out.mono (by omega))) Ho.out.2.2.2).mono ?_
    rintro e w6 ⟨rfl, hb6⟩
    have hz6 := hb6.size
    have Hc6 := hide (Hc5.out.trans (hb6.mono (by omega)))
    clear hb6 Hc5 b0 b1 b2
    obtain ⟨b0, b1, b2⟩ := Hbj.out.below Hc6.out (by omega)
    obtain ⟨r, hr⟩ : ∃ r, sortE lv t2 = r := ⟨_, rfl⟩
    have Hr2 := hide hr
    rw [hr]
    clear hr
    obtain ⟨s2, e2⟩ := r
    simp only
    go_wp2_with fail
    refine (of_any (w3.heap.size + 1) Av nv cv lv (d + d2 + 1) x 0 _ 2 2 (pairT x t t2) w6 Ho.out.1 Ho.out.2.1 Ho.out.2.2.1 (by omega) (Hrj.out.below (Hc6.out.mono (by omega))) ((Hrv4.out.below (Hc6.out.mono (by omega))).more (by omega)) Ho.out.2.2.2).mono ?_
    rintro e w7 ⟨rfl, hb7⟩
    have hz7 := hb7.size
    have Hc7 := hide (Hc6.out.trans (hb7.mono (by omega)))
    clear hb7 Hc6 b0 b1 b2
    obtain ⟨b0, b1, b2⟩ := Hbj.out.below Hc7.out (by omega)
    have Hrj7 := hide (Hrj.out.below (Hc7.out.mono (by omega)))
    have Hbw7 := hide (Hbw4.out.trans (Hc7.out.mono (by omega)))
    clear Hc7 Hbj Hrj Hbw4 Hre4 Hre24 Hrv4 Hbx14 Hbx24
    obtain ⟨r, hr⟩ : ∃ r, sortE lv (pairT x t t2) = r := ⟨_, rfl⟩
    have Hr3 := hide hr
    rw [hr]
    clear hr
    obtain ⟨s3, e3⟩ := r
    simp only
    by_cases he1 : e1 = 0
    · by_cases he2 : e2 = 0
      · have c1 : (e1 != 0) = false := by simp [he1]
        have c2 : (e2 != 0) = false := by simp [he2]
        go_wp2_with fail
        refine (rmay_any (w3.heap.size + 1) (d + d2 + 1) x 0 _ 2 2 (pairT x t t2) w7 (by omega) Hrj7.out).mono ?_
        rintro e w8 ⟨rfl, hb8⟩
        have hz8 := hb8.size
        have Hbw8 := hide (Hbw7.out.trans (hb8.mono (by omega)))
        clear hb8 b0 b1 b2 Hrj7 Hbw7
        by_cases hmc : mayE (pairT x t t2) = 0
        · have c3 : (mayE (pairT x t t2) != 0) = false := by simp [hmc]
          have Hf : Hid ((s3, e3) = tyN lv x 0 [s, s2]) := hide (by
            have h := pair_sort (l := lv) (x := x) (t := t) (u := t2) (by rw [Hr.out]; exact he1) (by rw [Hr2.out]; exact he2) hmc
            rw [Hr3.out, Hr.out, Hr2.out] at h
            exact h)
          clear Hr Hr2 Hr3 hmc he1 he2
          have hxc : x = 6 ∨ x = 7 ∨ x = 8 ∨ x = 9 ∨ x = 10 ∨ x = 11 ∨ x = 12 ∨ x = 13 ∨ x = 14 := by omega
          clear g2 g3
          generalize mayE (pairT x t t2) = mc at *
          unfold tyN at Hf
          rcases hxc with rfl | rfl | rfl | rfl | rfl | rfl | rfl | rfl | rfl
          · by_cases h0 : s = 1
            · have b0 : (s == 1) = true := by simp [h0]
              by_cases h1 : s2 = 1
              · have b1 : (s2 == 1) = true := by simp [h1]
                have HF : (s3, e3) = (1, 0) := Hf.out.trans (by simp [h0, h1])
                obtain ⟨rfl, rfl⟩ := Prod.mk.inj HF
                clear HF Hf h0 h1
                go_wp2_with fail
                refine (awake_any _).mono ?_
                rintro e w9 ⟨rfl, hb9⟩
                have Hf := hide (Hbw8.out.trans (hb9.mono (by omega)))
                clear hb9
                go_wp2_with fail
                go_ret
                exact ⟨rfl, Hf.out⟩
              · have b1 : (s2 == 1) = false := by simp [h1]
                have HF : (s3, e3) = (0, 4) := Hf.out.trans (by simp [h0, h1])
                obtain ⟨rfl, rfl⟩ := Prod.mk.inj HF
                clear HF Hf h0 h1
                go_wp2_with fail
                refine (awake_any _).mono ?_
                rintro e w9 ⟨rfl, hb9⟩
                have Hf := hide (Hbw8.out.trans (hb9.mono (by omega)))
                clear hb9
                go_wp2_with fail
                go_ret
                exact ⟨rfl, Hf.out⟩
            · have b0 : (s == 1) = false := by simp [h0]
              have HF : (s3, e3) = (0, 4) := Hf.out.trans (by simp [h0])
              obtain ⟨rfl, rfl⟩ := Prod.mk.inj HF
              clear HF Hf h0
              go_wp2_with fail
              refine (awake_any _).mono ?_
              rintro e w9 ⟨rfl, hb9⟩
              have Hf := hide (Hbw8.out.trans (hb9.mono (by omega)))
              clear hb9
              go_wp2_with fail
              go_ret
              exact ⟨rfl, Hf.out⟩
          · by_cases h0 : s = 1
            · have b0 : (s == 1) = true := by simp [h0]
              by_cases h1 : s2 = 1
              · have b1 : (s2 == 1) = true := by simp [h1]
                have HF : (s3, e3) = (1, 0) := Hf.out.trans (by simp [h0, h1])
                obtain ⟨rfl, rfl⟩ := Prod.mk.inj HF
                clear HF Hf h0 h1
                go_wp2_with fail
                refine (awake_any _).mono ?_
                rintro e w9 ⟨rfl, hb9⟩
                have Hf := hide (Hbw8.out.trans (hb9.mono (by omega)))
                clear hb9
                go_wp2_with fail
                go_ret
                exact ⟨rfl, Hf.out⟩
              · have b1 : (s2 == 1) = false := by simp [h1]
                have HF : (s3, e3) = (0, 4) := Hf.out.trans (by simp [h0, h1])
                obtain ⟨rfl, rfl⟩ := Prod.mk.inj HF
                clear HF Hf h0 h1
                go_wp2_with fail
                refine (awake_any _).mono ?_
                rintro e w9 ⟨rfl, hb9⟩
                have Hf := hide (Hbw8.out.trans (hb9.mono (by omega)))
                clear hb9
                go_wp2_with fail
                go_ret
                exact ⟨rfl, Hf.out⟩
            · have b0 : (s == 1) = false := by simp [h0]
              have HF : (s3, e3) = (0, 4) := Hf.out.trans (by simp [h0])
              obtain ⟨rfl, rfl⟩ := Prod.mk.inj HF
              clear HF Hf h0
              go_wp2_with fail
              refine (awake_any _).mono ?_
              rintro e w9 ⟨rfl, hb9⟩
              have Hf := hide (Hbw8.out.trans (hb9.mono (by omega)))
              clear hb9
              go_wp2_with fail
              go_ret
              exact ⟨rfl, Hf.out⟩
          · by_cases h0 : s = 1
            · have b0 : (s == 1) = true := by simp [h0]
              by_cases h1 : s2 = 1
              · have b1 : (s2 == 1) = true := by simp [h1]
                have HF : (s3, e3) = (1, 0) := Hf.out.trans (by simp [h0, h1])
                obtain ⟨rfl, rfl⟩ := Prod.mk.inj HF
                clear HF Hf h0 h1
                go_wp2_with fail
                refine (awake_any _).mono ?_
                rintro e w9 ⟨rfl, hb9⟩
                have Hf := hide (Hbw8.out.trans (hb9.mono (by omega)))
                clear hb9
                go_wp2_with fail
                go_ret
                exact ⟨rfl, Hf.out⟩
              · have b1 : (s2 == 1) = false := by simp [h1]
                have HF : (s3, e3) = (0, 4) := Hf.out.trans (by simp [h0, h1])
                obtain ⟨rfl, rfl⟩ := Prod.mk.inj HF
                clear HF Hf h0 h1
                go_wp2_with fail
                refine (awake_any _).mono ?_
                rintro e w9 ⟨rfl, hb9⟩
                have Hf := hide (Hbw8.out.trans (hb9.mono (by omega)))
                clear hb9
                go_wp2_with fail
                go_ret
                exact ⟨rfl, Hf.out⟩
            · have b0 : (s == 1) = false := by simp [h0]
              have HF : (s3, e3) = (0, 4) := Hf.out.trans (by simp [h0])
              obtain ⟨rfl, rfl⟩ := Prod.mk.inj HF
              clear HF Hf h0
              go_wp2_with fail
              refine (awake_any _).mono ?_
              rintro e w9 ⟨rfl, hb9⟩
              have Hf := hide (Hbw8.out.trans (hb9.mono (by omega)))
              clear hb9
              go_wp2_with fail
              go_ret
              exact ⟨rfl, Hf.out⟩
          · by_cases h0 : s = s2
            · have b0 : (s == s2) = true := by simp [h0]
              have HF : (s3, e3) = (1, 0) := Hf.out.trans (by simp [h0])
              obtain ⟨rfl, rfl⟩ := Prod.mk.inj HF
              clear HF Hf h0
              go_wp2_with fail
              refine (awake_any _).mono ?_
              rintro e w9 ⟨rfl, hb9⟩
              have Hf := hide (Hbw8.out.trans (hb9.mono (by omega)))
              clear hb9
              go_wp2_with fail
              go_ret
              exact ⟨rfl, Hf.out⟩
            · have b0 : (s == s2) = false := by simp [h0]
              have HF : (s3, e3) = (0, 4) := Hf.out.trans (by simp [h0])
              obtain ⟨rfl, rfl⟩ := Prod.mk.inj HF
              clear HF Hf h0
              go_wp2_with fail
              refine (awake_any _).mono ?_
              rintro e w9 ⟨rfl, hb9⟩
              have Hf := hide (Hbw8.out.trans (hb9.mono (by omega)))
              clear hb9
              go_wp2_with fail
              go_ret
              exact ⟨rfl, Hf.out⟩
          · by_cases h0 : s = 2
            · have b0 : (s == 2) = true := by simp [h0]
              by_cases h1 : s2 = 2
              · have b1 : (s2 == 2) = true := by simp [h1]
                have HF : (s3, e3) = (1, 0) := Hf.out.trans (by simp [h0, h1])
                obtain ⟨rfl, rfl⟩ := Prod.mk.inj HF
                clear HF Hf h0 h1
                go_wp2_with fail
                refine (awake_any _).mono ?_
                rintro e w9 ⟨rfl, hb9⟩
                have Hf := hide (Hbw8.out.trans (hb9.mono (by omega)))
                clear hb9
                go_wp2_with fail
                go_ret
                exact ⟨rfl, Hf.out⟩
              · have b1 : (s2 == 2) = false := by simp [h1]
                have HF : (s3, e3) = (0, 4) := Hf.out.trans (by simp [h0, h1])
                obtain ⟨rfl, rfl⟩ := Prod.mk.inj HF
                clear HF Hf h0 h1
                go_wp2_with fail
                refine (awake_any _).mono ?_
                rintro e w9 ⟨rfl, hb9⟩
                have Hf := hide (Hbw8.out.trans (hb9.mono (by omega)))
                clear hb9
                go_wp2_with fail
                go_ret
                exact ⟨rfl, Hf.out⟩
            · have b0 : (s == 2) = false := by simp [h0]
              have HF : (s3, e3) = (0, 4) := Hf.out.trans (by simp [h0])
              obtain ⟨rfl, rfl⟩ := Prod.mk.inj HF
              clear HF Hf h0
              go_wp2_with fail
              refine (awake_any _).mono ?_
              rintro e w9 ⟨rfl, hb9⟩
              have Hf := hide (Hbw8.out.trans (hb9.mono (by omega)))
              clear hb9
              go_wp2_with fail
              go_ret
              exact ⟨rfl, Hf.out⟩
          · by_cases h0 : s = 2
            · have b0 : (s == 2) = true := by simp [h0]
              by_cases h1 : s2 = 2
              · have b1 : (s2 == 2) = true := by simp [h1]
                have HF : (s3, e3) = (1, 0) := Hf.out.trans (by simp [h0, h1])
                obtain ⟨rfl, rfl⟩ := Prod.mk.inj HF
                clear HF Hf h0 h1
                go_wp2_with fail
                refine (awake_any _).mono ?_
                rintro e w9 ⟨rfl, hb9⟩
                have Hf := hide (Hbw8.out.trans (hb9.mono (by omega)))
                clear hb9
                go_wp2_with fail
                go_ret
                exact ⟨rfl, Hf.out⟩
              · have b1 : (s2 == 2) = false := by simp [h1]
                have HF : (s3, e3) = (0, 4) := Hf.out.trans (by simp [h0, h1])
                obtain ⟨rfl, rfl⟩ := Prod.mk.inj HF
                clear HF Hf h0 h1
                go_wp2_with fail
                refine (awake_any _).mono ?_
                rintro e w9 ⟨rfl, hb9⟩
                have Hf := hide (Hbw8.out.trans (hb9.mono (by omega)))
                clear hb9
                go_wp2_with fail
                go_ret
                exact ⟨rfl, Hf.out⟩
            · have b0 : (s == 2) = false := by simp [h0]
              have HF : (s3, e3) = (0, 4) := Hf.out.trans (by simp [h0])
              obtain ⟨rfl, rfl⟩ := Prod.mk.inj HF
              clear HF Hf h0
              go_wp2_with fail
              refine (awake_any _).mono ?_
              rintro e w9 ⟨rfl, hb9⟩
              have Hf := hide (Hbw8.out.trans (hb9.mono (by omega)))
              clear hb9
              go_wp2_with fail
              go_ret
              exact ⟨rfl, Hf.out⟩
          · by_cases h0 : s = 2
            · have b0 : (s == 2) = true := by simp [h0]
              by_cases h1 : s2 = 2
              · have b1 : (s2 == 2) = true := by simp [h1]
                have HF : (s3, e3) = (2, 0) := Hf.out.trans (by simp [h0, h1])
                obtain ⟨rfl, rfl⟩ := Prod.mk.inj HF
                clear HF Hf h0 h1
                go_wp2_with fail
                refine (awake_any _).mono ?_
                rintro e w9 ⟨rfl, hb9⟩
                have Hf := hide (Hbw8.out.trans (hb9.mono (by omega)))
                clear hb9
                go_wp2_with fail
                go_ret
                exact ⟨rfl, Hf.out⟩
              · have b1 : (s2 == 2) = false := by simp [h1]
                have HF : (s3, e3) = (0, 4) := Hf.out.trans (by simp [h0, h1])
                obtain ⟨rfl, rfl⟩ := Prod.mk.inj HF
                clear HF Hf h0 h1
                go_wp2_with fail
                refine (awake_any _).mono ?_
                rintro e w9 ⟨rfl, hb9⟩
                have Hf := hide (Hbw8.out.trans (hb9.mono (by omega)))
                clear hb9
                go_wp2_with fail
                go_ret
                exact ⟨rfl, Hf.out⟩
            · have b0 : (s == 2) = false := by simp [h0]
              have HF : (s3, e3) = (0, 4) := Hf.out.trans (by simp [h0])
              obtain ⟨rfl, rfl⟩ := Prod.mk.inj HF
              clear HF Hf h0
              go_wp2_with fail
              refine (awake_any _).mono ?_
              rintro e w9 ⟨rfl, hb9⟩
              have Hf := hide (Hbw8.out.trans (hb9.mono (by omega)))
              clear hb9
              go_wp2_with fail
              go_ret
              exact ⟨rfl, Hf.out⟩
          · by_cases h0 : s = 2
            · have b0 : (s == 2) = true := by simp [h0]
              by_cases h1 : s2 = 2
              · have b1 : (s2 == 2) = true := by simp [h1]
                have HF : (s3, e3) = (2, 0) := Hf.out.trans (by simp [h0, h1])
                obtain ⟨rfl, rfl⟩ := Prod.mk.inj HF
                clear HF Hf h0 h1
                go_wp2_with fail
                refine (awake_any _).mono ?_
                rintro e w9 ⟨rfl, hb9⟩
                have Hf := hide (Hbw8.out.trans (hb9.mono (by omega)))
                clear hb9
                go_wp2_with fail
                go_ret
                exact ⟨rfl, Hf.out⟩
              · have b1 : (s2 == 2) = false := by simp [h1]
                have HF : (s3, e3) = (0, 4) := Hf.out.trans (by simp [h0, h1])
                obtain ⟨rfl, rfl⟩ := Prod.mk.inj HF
                clear HF Hf h0 h1
                go_wp2_with fail
                refine (awake_any _).mono ?_
                rintro e w9 ⟨rfl, hb9⟩
                have Hf := hide (Hbw8.out.trans (hb9.mono (by omega)))
                clear hb9
                go_wp2_with fail
                go_ret
                exact ⟨rfl, Hf.out⟩
            · have b0 : (s == 2) = false := by simp [h0]
              have HF : (s3, e3) = (0, 4) := Hf.out.trans (by simp [h0])
              obtain ⟨rfl, rfl⟩ := Prod.mk.inj HF
              clear HF Hf h0
              go_wp2_with fail
              refine (awake_any _).mono ?_
              rintro e w9 ⟨rfl, hb9⟩
              have Hf := hide (Hbw8.out.trans (hb9.mono (by omega)))
              clear hb9
              go_wp2_with fail
              go_ret
              exact ⟨rfl, Hf.out⟩
          · by_cases h0 : s = 2
            · have b0 : (s == 2) = true := by simp [h0]
              by_cases h1 : s2 = 2
              · have b1 : (s2 == 2) = true := by simp [h1]
                have HF : (s3, e3) = (2, 0) := Hf.out.trans (by simp [h0, h1])
                obtain ⟨rfl, rfl⟩ := Prod.mk.inj HF
                clear HF Hf h0 h1
                go_wp2_with fail
                refine (awake_any _).mono ?_
                rintro e w9 ⟨rfl, hb9⟩
                have Hf := hide (Hbw8.out.trans (hb9.mono (by omega)))
                clear hb9
                go_wp2_with fail
                go_ret
                exact ⟨rfl, Hf.out⟩
              · have b1 : (s2 == 2) = false := by simp [h1]
                have HF : (s3, e3) = (0, 4) := Hf.out.trans (by simp [h0, h1])
                obtain ⟨rfl, rfl⟩ := Prod.mk.inj HF
                clear HF Hf h0 h1
                go_wp2_with fail
                refine (awake_any _).mono ?_
                rintro e w9 ⟨rfl, hb9⟩
                have Hf := hide (Hbw8.out.trans (hb9.mono (by omega)))
                clear hb9
                go_wp2_with fail
                go_ret
                exact ⟨rfl, Hf.out⟩
            · have b0 : (s == 2) = false := by simp [h0]
              have HF : (s3, e3) = (0, 4) := Hf.out.trans (by simp [h0])
              obtain ⟨rfl, rfl⟩ := Prod.mk.inj HF
              clear HF Hf h0
              go_wp2_with fail
              refine (awake_any _).mono ?_
              rintro e w9 ⟨rfl, hb9⟩
              have Hf := hide (Hbw8.out.trans (hb9.mono (by omega)))
              clear hb9
              go_wp2_with fail
              go_ret
              exact ⟨rfl, Hf.out⟩
        · have c3 : (mayE (pairT x t t2) != 0) = true := by simp [hmc]
          clear hmc he1 he2
          go_wp2_with fail
          refine (awake_any _).mono ?_
          rintro e w9 ⟨rfl, hb9⟩
          have Hf := hide (Hbw8.out.trans (hb9.mono (by omega)))
          clear hb9
          go_wp2_with fail
          go_ret
          exact ⟨rfl, Hf.out⟩
      · have c1 : (e1 != 0) = false := by simp [he1]
        have c2 : (e2 != 0) = true := by simp [he2]
        clear he1 he2
        go_wp2_with fail
        refine (awake_any _).mono ?_
        rintro e w9 ⟨rfl, hb9⟩
        have Hf := hide (Hbw7.out.trans (hb9.mono (by omega)))
        clear hb9
        go_wp2_with fail
        go_ret
        exact ⟨rfl, Hf.out⟩
    · have c1 : (e1 != 0) = true := by simp [he1]
      clear he1
      go_wp2_with fail
      refine (awake_any _).mono ?_
      rintro e w9 ⟨rfl, hb9⟩
      have Hf := hide (Hbw7.out.trans (hb9.mono (by omega)))
      clear hb9
      go_wp2_with fail
      go_ret
      exact ⟨rfl, Hf.out⟩
  · have hcase : decide (0 < Dom.heavyGo 0 lv + heavyE t + heavyE t2) = true ∨ (decide (0 < Dom.heavyGo 0 lv + heavyE t + heavyE t2) = false ∧ decide (x < 6) = true) ∨ (decide (0 < Dom.heavyGo 0 lv + heavyE t + heavyE t2) = false ∧ decide (x < 6) = false ∧ decide (14 < x) = true) := by
      by_cases q1 : 0 < Dom.heavyGo 0 lv + heavyE t + heavyE t2
      · exact .inl (by simp [q1])
      · by_cases q2 : x < 6
        · exact .inr (.inl ⟨by rw [decide_eq_false_iff_not]; exact q1, by simp [q2]⟩)
        · exact .inr (.inr ⟨by rw [decide_eq_false_iff_not]; exact q1, by rw [decide_eq_false_iff_not]; exact q2, by rw [decide_eq_true_iff]; exact Int.not_le.1 (fun h => hgood ⟨q1, by omega, h⟩)⟩)
    clear hgood
    rcases hcase with c1 | ⟨c1, c2⟩ | ⟨c1, c2, c3⟩
    all_goals
      go_enter Try.func6, Try.ntmps6
      go_wp2_with fail
      generalize (w.alloc (.cells #[.int .i64 op, .int .i64 n, .slice A len cap] 25)).alloc (.cells #[.int .i64 op2, .int .i64 n2, .slice A2 len2 cap2] 25) = W at *
      have hBW : B ≤ W.heap.size := by omega
      have C0 := cell_regrown Hbx1.out.1
      have C1 := cell_regrown Hbx1.out.2.1
      have C2 := cell_regrown Hbx1.out.2.2
      have E0 := cell_regrown Hbx2.out.1
      have E1 := cell_regrown Hbx2.out.2.1
      have E2 := cell_regrown Hbx2.out.2.2
      refine wp_region_quiet_below (by kernel_rfl) (by kernel_rfl) ?_
      repeat (go_big_quiet_step (first | (go_at_call 7; exact q_vheavy hBW Ho (by assumption)) | (go_at_call 8; exact q_heavy hBW (by assumption))))
      refine wpQuiet_nil ?_
      intro w3 hw3
      obtain ⟨p, hp⟩ := hw3
      have hb3 : Below W.heap.size W w3 := by rw [hp]; exact below_regrown W p.d p.os
      have hz3 := hb3.size
      have Hbx' := hide (Hbx.out.trans (hb3.mono (by omega)))
      clear hp hb3 C0 C1 C2 E0 E1 E2 Hbx Hre Hre2 Hrv Hbx1 Hbx2 hBW
      go_wp2_with fail
      refine (awake_any _).mono ?_
      rintro e w4 ⟨rfl, hb4⟩
      have Hf := hide (Hbx'.out.trans (hb4.mono (by omega)))
      clear hb4
      go_wp2_with fail
      go_ret
      exact ⟨rfl, Hf.out⟩
end Go.Proofs.Ytdjllpejonfpgaa
