/- The walk of PreDead. -/
import Derived.Test.YtnecihnhlkaajaaPCalls
import Derived.Test.YtnecihnhlkaajaaPLaw
import Derived.Deep.RegionHeld3
import Derived.Deep.CutRange
import Derived.Deep.Cut
import Derived.BigQuiet
import Derived.Deep.QuietTactic
namespace Go.Proofs.Ytnecihnhlkaajaa.Gr
open Go.RowKit
open Go.Sort (grow)
set_option linter.unusedSimpArgs false
set_option linter.unusedVariables false
set_option maxRecDepth 100000 in
set_option maxHeartbeats 8000000 in
theorem pdead_any (B : Nat) (OA NA : Option Addr) (on oc nn nc : Nat) (g : GT) (who0 : Int) (A3 : Option Addr) (n3 c3 : Nat) (l : List Bool) (w : World) (hB : B ≤ w.heap.size)
    (hg : RG w B ⟨OA, on, oc⟩ ⟨NA, nn, nc⟩ g) (hr : RB w B ⟨A3, n3, c3⟩ l) :
    Calls Try.prog 6 #[.agg #[.slice OA on oc, .slice NA nn nc], .int .i64 who0, .slice A3 n3 c3] w fun e w' => e = .returned (.bool true) ∧ Below w.heap.size w w' := by
  have hbx : Below w.heap.size w ((w.alloc (.cells #[.slice OA on oc, .slice NA nn nc] 25)).alloc (.cells #[.slice A3 n3 c3] 26)) := ((Below.refl _ _).alloc (Nat.le_refl _) _).alloc (by simp) _
  have e0 := (Below.heap_alloc _ (.cells #[.slice A3 n3 c3] 26) w.heap.size (by rw [size_al]; omega)).trans (new_at (w := w) (o := (.cells #[.slice OA on oc, .slice NA nn nc] 25)) rfl)
  have e1 : ((w.alloc (.cells #[.slice OA on oc, .slice NA nn nc] 25)).alloc (.cells #[.slice A3 n3 c3] 26)).heap[w.heap.size + 1]? = some (.cells #[.slice A3 n3 c3] 26) := new_at (by rw [size_al])
  have Hg := hide ((hg.below (hbx.mono hB)).more (Nat.le_trans hB hbx.size))
  have Hr := hide ((RB.below hr (hbx.mono hB)).more (Nat.le_trans hB hbx.size))
  have Hrr := hide (rrb_one e1 Hr.out)
  have E0 := hide e0
  have Hbx := hide hbx
  have Hnil : Hid (RB ((w.alloc (.cells #[.slice OA on oc, .slice NA nn nc] 25)).alloc (.cells #[.slice A3 n3 c3] 26)) ((w.alloc (.cells #[.slice OA on oc, .slice NA nn nc] 25)).alloc (.cells #[.slice A3 n3 c3] 26)).heap.size ⟨none, 0, 0⟩ []) := hide (rows_nil _ _ _)
  clear hg hr hbx e0 e1
  go_enter Try.func6, Try.ntmps6
  go_wp2_with fail
  generalize ((w.alloc (.cells #[.slice OA on oc, .slice NA nn nc] 25)).alloc (.cells #[.slice A3 n3 c3] 26)) = W at *
  have h1 : w.heap.size < W.heap.size := cell_lt (cell_blk (i := 0) E0.out rfl)
  refine (light_any _ OA NA on oc nn nc g _ 1 1 _ W (Nat.le_refl _) Hg.out Hrr.out).mono ?_
  rintro e w2 ⟨rfl, hb2⟩
  have Hb2 := hide hb2
  have c0 : W.cell? ⟨w.heap.size, 0, none⟩ = some (.slice OA on oc) := cell_blk E0.out rfl
  have c1 : W.cell? ⟨w.heap.size, 1, none⟩ = some (.slice NA nn nc) := cell_blk E0.out rfl
  clear hb2
  cases hlb : lightB g [l]
  · clear hlb c0 c1
    go_wp2_with fail
    refine (c_awake (W := W) Hb2).mono ?_
    rintro e w3 ⟨rfl, hx1, hx2, hx3⟩
    go_wp2_with fail
    go_ret
    exact ⟨rfl, Hbx.out.trans (hx2.out.mono (by omega))⟩
  · clear hlb Hrr
    obtain ⟨f0, f1⟩ := keep2 Hb2 h1 c0 c1
    go_wp2_with fail
    refine (c_rmay (W := W) Hg Hb2 Hb2).mono ?_
    rintro e w3 ⟨rfl, x1, Hb3, x3⟩
    clear x1 x3 f0 f1 Hb2
    by_cases hm : mayG g = 0
    · have hm' : (mayG g != 0) = false := by simp [hm]
      obtain ⟨m1, m2, m3⟩ := may_facts hm
      have hl1' := Hg.out.own.len
      have hl2' := Hg.out.nxt.len
      simp only at hl1' hl2'
      obtain rfl : nn = on := by omega
      have hon : nn ≤ 3000 := by omega
      have Hm := hide hm
      have HL : Hid (g.own.length = nn) := hide hl1'
      have Hms : Hid (nn ≤ 2 ^ 48) := hide (by omega)
      clear m1 m2 m3 hl1' hl2' hm
      obtain ⟨who, hk01, hwe⟩ := who2 who0
      obtain ⟨d0, d1⟩ := keep2 Hb3 h1 c0 c1
      have Hs3 := hide (Hb3.out.drew)
      rcases hk01 with rfl | rfl
      · have hww0 : IntKind.i64.wrap 0 = 0 := by decide
        have hww1 : IntKind.i64.wrap 1 = 1 := by decide
        go_wp2_with fail
        clear hwe hww0 hww1
        go_region_held3 (fun w' => w'.cell? ⟨w.heap.size, 0, none⟩ = some (.slice OA nn oc) ∧ w'.cell? ⟨w.heap.size, 1, none⟩ = some (.slice NA nn nc))
          (first | exact keep2 (by assumption) h1 c0 c1)
          (first
            | (go_at_call 15; refine (c_force (W := W) Hg (by assumption) (by assumption) (by assumption) (by assumption)).mono ?_; rintro e wx ⟨xA, xn, xc, rfl, hkx, x1, x2, x3⟩)
            | (go_at_call 9; refine (c_not (W := W) Hms Hg (by assumption) (by assumption) (by assumption) (by assumption)).mono ?_; rintro e wy ⟨yA, yn, yc, rfl, hky, y1, y2, y3⟩))
        rename_i wA aA an ac hka a1 a2 a3 hHeld
        clear hHeld
        have HA : Hid (RB wx wx.heap.size ⟨aA, an, ac⟩ ((List.range nn).map (fAt g 0 l))) := hide (by have h := rb_x (hide (rb_x hka y1)) x1; rw [forceL_eq Hm.out (by decide), HL.out] at h; exact h)
        have HB : Hid (RB wx wx.heap.size ⟨xA, xn, xc⟩ ((List.range nn).map (fAt g 0 (notL nn [])))) := hide (by have h := hkx.out; rw [forceL_eq Hm.out (by decide), HL.out] at h; exact h)
        have HW := x2
        have hal := HA.out.len
        have hbl := HB.out.len
        simp at hal hbl
        subst hal
        subst hbl
        clear hka hkx hky a1 a2 a3 y1 y2 y3 x1 x2 x3 d0 d1 Hs3 Hb3 Hnil
        obtain ⟨d0, d1⟩ := keep2 HW h1 c0 c1
        have D0 := hide d0
        have D1 := hide d1
        have Hgx := hide (rg_x Hg HW)
        have hs0 : ((nn : Int) != (nn : Int)) = false := by simp
        have h1x : w.heap.size < wx.heap.size := cell_lt d0
        clear c0 c1 E0 Hg Hr
        go_wp2_with fail
        clear d0 d1
        go_loopw [49] (fun i wr => ∃ k : Nat, k ≤ nn ∧ i = .int .i64 k ∧ Below wx.heap.size wx wr) (fun i _ => nn - (intOf i).toNat)
        case atStart => exact ⟨0, Nat.zero_le _, rfl, Below.refl _ _⟩
        case round =>
          obtain ⟨k, hk, rfl, hb⟩ := hrel
          have Hb := hide hb
          by_cases hlt : k < nn
          · have hlt' : (k : Int) < (nn : Int) := by omega
            have hk0 : (0 : Int) ≤ (k : Int) := by omega
            obtain ⟨ba, oa, rfl, hba, qa⟩ := rb_map (HA.out.below hb) hlt
            obtain ⟨bb, ob, rfl, hbb, qb⟩ := rb_map (HB.out.below hb) hlt
            obtain ⟨b, off, x0, rfl, hbB, hx, hc⟩ := (Hgx.out.below hb).own.at_ hlt
            obtain ⟨b2, off2, r, A2, n2, k2, rfl, hbB2, hrr, hc2, hri⟩ := (Hgx.out.below hb).nxt.at_ hlt
            have e0 := (hb.cell (p := ⟨w.heap.size, 0, none⟩) h1x).trans D0.out
            have e1 := (hb.cell (p := ⟨w.heap.size, 1, none⟩) h1x).trans D1.out
            have hrl := hri.len
            simp only at hrl
            have go0 := getD_at (d := (0 : Int)) hx
            have gr0 := getD_at (d := ([] : List Int)) hrr
            have Hd : Hid (n2 = 0 → fAt g 0 l k = !(x0 == 0) ∧ fAt g 0 (notL nn []) k = !(x0 == 0)) := hide (fun hz => by
              have hrn : g.nxt.getD k [] = [] := by rw [gr0]; exact List.eq_nil_of_length_eq_zero (by omega)
              rw [f_dead hrn, f_dead hrn, go0]; exact ⟨rfl, rfl⟩)
            have Ha : Hid (n2 ≠ 0 → fAt g 0 (notL nn []) k = true) := hide (fun hz => by
              have h := f_all Hm.out (who := 0) (v := k) (by rw [HL.out]; exact hlt) (by rw [gr0]; intro hn; rw [hn] at hrl; simp at hrl; omega)
              rw [HL.out] at h; exact h)
            generalize fAt g 0 l k = p at *
            generalize fAt g 0 (notL nn []) k = q at *
            clear hb hx hrr hri go0 gr0 hrl
            by_cases hz : n2 = 0
            · obtain ⟨rfl, rfl⟩ := Hd.out hz
              have hz1 : ((n2 : Int) == 0) = true := by simp; omega
              have hz2 : decide (0 < n2) = false := decide_eq_false (by omega)
              clear Hd Ha hz
              cases hxw : x0 == 0
              all_goals
                have hxn : (x0 != 0) = !(x0 == 0) := rfl
                rw [hxw] at qa qb hxn
                simp only [Bool.not_true, Bool.not_false] at qa qb hxn
                go_wp2_with fail
                go_quiet (fail)
                go_wp2_with fail
                go_roundw
                case rel => exact ⟨k + 1, by omega, by go_num, Hb.out.trans ⟨rfl, rfl, rfl, Nat.le_refl _, fun _ _ => rfl⟩⟩
                case measure => simp [intOf]; omega
            · have hq := Ha.out hz
              subst hq
              clear Hd Ha
              have hz1 : ((n2 : Int) == 0) = false := by simp; omega
              have hz2 : decide (0 < n2) = true := decide_eq_true (by omega)
              clear hz
              go_wp2_with fail
              go_quiet (fail)
              go_wp2_with fail
              go_roundw
              case rel => exact ⟨k + 1, by omega, by go_num, Hb.out.trans ⟨rfl, rfl, rfl, Nat.le_refl _, fun _ _ => rfl⟩⟩
              case measure => simp [intOf]; omega
          · have hlt' : ¬ (k : Int) < (nn : Int) := by omega
            go_wp2_with fail
            refine (awake_any _).mono ?_
            rintro e w9 ⟨rfl, hb9⟩
            go_wp2_with fail
            go_ret
            exact ⟨rfl, Hbx.out.trans ((HW.out.trans ((Hb.out.trans (hb9.mono Hb.out.size)).mono HW.out.size)).mono Hbx.out.size)⟩
      · have hww0 : IntKind.i64.wrap 0 = 0 := by decide
        have hww1 : IntKind.i64.wrap 1 = 1 := by decide
        go_wp2_with fail
        clear hwe hww0 hww1
        go_region_held3 (fun w' => w'.cell? ⟨w.heap.size, 0, none⟩ = some (.slice OA nn oc) ∧ w'.cell? ⟨w.heap.size, 1, none⟩ = some (.slice NA nn nc))
          (first | exact keep2 (by assumption) h1 c0 c1)
          (first
            | (go_at_call 15; refine (c_force (W := W) Hg (by assumption) (by assumption) (by assumption) (by assumption)).mono ?_; rintro e wx ⟨xA, xn, xc, rfl, hkx, x1, x2, x3⟩)
            | (go_at_call 9; refine (c_not (W := W) Hms Hg (by assumption) (by assumption) (by assumption) (by assumption)).mono ?_; rintro e wy ⟨yA, yn, yc, rfl, hky, y1, y2, y3⟩))
        rename_i wA aA an ac hka a1 a2 a3 hHeld
        clear hHeld
        have HA : Hid (RB wx wx.heap.size ⟨aA, an, ac⟩ ((List.range nn).map (fAt g 1 l))) := hide (by have h := rb_x (hide (rb_x hka y1)) x1; rw [forceL_eq Hm.out (by decide), HL.out] at h; exact h)
        have HB : Hid (RB wx wx.heap.size ⟨xA, xn, xc⟩ ((List.range nn).map (fAt g 1 (notL nn [])))) := hide (by have h := hkx.out; rw [forceL_eq Hm.out (by decide), HL.out] at h; exact h)
        have HW := x2
        have hal := HA.out.len
        have hbl := HB.out.len
        simp at hal hbl
        subst hal
        subst hbl
        clear hka hkx hky a1 a2 a3 y1 y2 y3 x1 x2 x3 d0 d1 Hs3 Hb3 Hnil
        obtain ⟨d0, d1⟩ := keep2 HW h1 c0 c1
        have D0 := hide d0
        have D1 := hide d1
        have Hgx := hide (rg_x Hg HW)
        have hs0 : ((nn : Int) != (nn : Int)) = false := by simp
        have h1x : w.heap.size < wx.heap.size := cell_lt d0
        clear c0 c1 E0 Hg Hr
        go_wp2_with fail
        clear d0 d1
        go_loopw [49] (fun i wr => ∃ k : Nat, k ≤ nn ∧ i = .int .i64 k ∧ Below wx.heap.size wx wr) (fun i _ => nn - (intOf i).toNat)
        case atStart => exact ⟨0, Nat.zero_le _, rfl, Below.refl _ _⟩
        case round =>
          obtain ⟨k, hk, rfl, hb⟩ := hrel
          have Hb := hide hb
          by_cases hlt : k < nn
          · have hlt' : (k : Int) < (nn : Int) := by omega
            have hk0 : (0 : Int) ≤ (k : Int) := by omega
            obtain ⟨ba, oa, rfl, hba, qa⟩ := rb_map (HA.out.below hb) hlt
            obtain ⟨bb, ob, rfl, hbb, qb⟩ := rb_map (HB.out.below hb) hlt
            obtain ⟨b, off, x0, rfl, hbB, hx, hc⟩ := (Hgx.out.below hb).own.at_ hlt
            obtain ⟨b2, off2, r, A2, n2, k2, rfl, hbB2, hrr, hc2, hri⟩ := (Hgx.out.below hb).nxt.at_ hlt
            have e0 := (hb.cell (p := ⟨w.heap.size, 0, none⟩) h1x).trans D0.out
            have e1 := (hb.cell (p := ⟨w.heap.size, 1, none⟩) h1x).trans D1.out
            have hrl := hri.len
            simp only at hrl
            have go0 := getD_at (d := (0 : Int)) hx
            have gr0 := getD_at (d := ([] : List Int)) hrr
            have Hd : Hid (n2 = 0 → fAt g 1 l k = !(x0 == 1) ∧ fAt g 1 (notL nn []) k = !(x0 == 1)) := hide (fun hz => by
              have hrn : g.nxt.getD k [] = [] := by rw [gr0]; exact List.eq_nil_of_length_eq_zero (by omega)
              rw [f_dead hrn, f_dead hrn, go0]; exact ⟨rfl, rfl⟩)
            have Ha : Hid (n2 ≠ 0 → fAt g 1 (notL nn []) k = true) := hide (fun hz => by
              have h := f_all Hm.out (who := 1) (v := k) (by rw [HL.out]; exact hlt) (by rw [gr0]; intro hn; rw [hn] at hrl; simp at hrl; omega)
              rw [HL.out] at h; exact h)
            generalize fAt g 1 l k = p at *
            generalize fAt g 1 (notL nn []) k = q at *
            clear hb hx hrr hri go0 gr0 hrl
            by_cases hz : n2 = 0
            · obtain ⟨rfl, rfl⟩ := Hd.out hz
              have hz1 : ((n2 : Int) == 0) = true := by simp; omega
              have hz2 : decide (0 < n2) = false := decide_eq_false (by omega)
              clear Hd Ha hz
              cases hxw : x0 == 1
              all_goals
                have hxn : (x0 != 1) = !(x0 == 1) := rfl
                rw [hxw] at qa qb hxn
                simp only [Bool.not_true, Bool.not_false] at qa qb hxn
                go_wp2_with fail
                go_quiet (fail)
                go_wp2_with fail
                go_roundw
                case rel => exact ⟨k + 1, by omega, by go_num, Hb.out.trans ⟨rfl, rfl, rfl, Nat.le_refl _, fun _ _ => rfl⟩⟩
                case measure => simp [intOf]; omega
            · have hq := Ha.out hz
              subst hq
              clear Hd Ha
              have hz1 : ((n2 : Int) == 0) = false := by simp; omega
              have hz2 : decide (0 < n2) = true := decide_eq_true (by omega)
              clear hz
              go_wp2_with fail
              go_quiet (fail)
              go_wp2_with fail
              go_roundw
              case rel => exact ⟨k + 1, by omega, by go_num, Hb.out.trans ⟨rfl, rfl, rfl, Nat.le_refl _, fun _ _ => rfl⟩⟩
              case measure => simp [intOf]; omega
          · have hlt' : ¬ (k : Int) < (nn : Int) := by omega
            go_wp2_with fail
            refine (awake_any _).mono ?_
            rintro e w9 ⟨rfl, hb9⟩
            go_wp2_with fail
            go_ret
            exact ⟨rfl, Hbx.out.trans ((HW.out.trans ((Hb.out.trans (hb9.mono Hb.out.size)).mono HW.out.size)).mono Hbx.out.size)⟩
    · have hm' : (mayG g != 0) = true := by simp [hm]
      clear hm c0 c1
      go_wp2_with fail
      refine (c_awake (W := W) Hb3).mono ?_
      rintro e w4 ⟨rfl, hx1, hx2, hx3⟩
      go_wp2_with fail
      go_ret
      exact ⟨rfl, Hbx.out.trans (hx2.out.mono (by omega))⟩
end Go.Proofs.Ytnecihnhlkaajaa.Gr
