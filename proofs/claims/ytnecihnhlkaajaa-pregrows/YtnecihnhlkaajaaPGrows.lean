/- The walk of PreGrows. -/
import Derived.Test.YtnecihnhlkaajaaPCalls
import Derived.Test.YtnecihnhlkaajaaPLaw
import Derived.Deep.RegionHeld3
import Derived.Deep.CutRange
import Derived.Deep.Cut
import Derived.BigQuiet
import Derived.Deep.QuietTactic
namespace Go.Proofs.Ytnecihnhlkaajaa.Gr
open Go.RowKit
open Go.Sort (grow)
set_option linter.unusedSimpArgs false
set_option linter.unusedVariables false
set_option maxRecDepth 100000 in
set_option maxHeartbeats 8000000 in
theorem pgrows_any (B : Nat) (OA NA : Option Addr) (on oc nn nc : Nat) (g : GT) (who0 : Int) (A3 : Option Addr) (n3 c3 : Nat) (l : List Bool) (A4 : Option Addr) (n4 c4 : Nat) (l2 : List Bool) (w : World) (hB : B ≤ w.heap.size)
    (hg : RG w B ⟨OA, on, oc⟩ ⟨NA, nn, nc⟩ g) (hr : RB w B ⟨A3, n3, c3⟩ l) (ht : RB w B ⟨A4, n4, c4⟩ l2) :
    Calls Try.prog 5 #[.agg #[.slice OA on oc, .slice NA nn nc], .int .i64 who0, .slice A3 n3 c3, .slice A4 n4 c4] w fun e w' => e = .returned (.bool true) ∧ Below w.heap.size w w' := by
  have hbx : Below w.heap.size w ((w.alloc (.cells #[.slice OA on oc, .slice NA nn nc] 25)).alloc (.cells #[.slice A3 n3 c3, .slice A4 n4 c4] 26)) := ((Below.refl _ _).alloc (Nat.le_refl _) _).alloc (by simp) _
  have e0 := (Below.heap_alloc _ (.cells #[.slice A3 n3 c3, .slice A4 n4 c4] 26) w.heap.size (by rw [size_al]; omega)).trans (new_at (w := w) (o := (.cells #[.slice OA on oc, .slice NA nn nc] 25)) rfl)
  have e1 : ((w.alloc (.cells #[.slice OA on oc, .slice NA nn nc] 25)).alloc (.cells #[.slice A3 n3 c3, .slice A4 n4 c4] 26)).heap[w.heap.size + 1]? = some (.cells #[.slice A3 n3 c3, .slice A4 n4 c4] 26) := new_at (by rw [size_al])
  have Hg := hide ((hg.below (hbx.mono hB)).more (Nat.le_trans hB hbx.size))
  have Hr := hide ((RB.below hr (hbx.mono hB)).more (Nat.le_trans hB hbx.size))
  have Ht := hide ((RB.below ht (hbx.mono hB)).more (Nat.le_trans hB hbx.size))
  have Hrr := hide (rrb_two e1 Hr.out Ht.out)
  have E0 := hide e0
  have Hbx := hide hbx
  have Hnil : Hid (RB ((w.alloc (.cells #[.slice OA on oc, .slice NA nn nc] 25)).alloc (.cells #[.slice A3 n3 c3, .slice A4 n4 c4] 26)) ((w.alloc (.cells #[.slice OA on oc, .slice NA nn nc] 25)).alloc (.cells #[.slice A3 n3 c3, .slice A4 n4 c4] 26)).heap.size ⟨none, 0, 0⟩ []) := hide (rows_nil _ _ _)
  clear hg hr ht hbx e0 e1
  go_enter Try.func5, Try.ntmps5
  go_wp2_with fail
  generalize ((w.alloc (.cells #[.slice OA on oc, .slice NA nn nc] 25)).alloc (.cells #[.slice A3 n3 c3, .slice A4 n4 c4] 26)) = W at *
  have h1 : w.heap.size < W.heap.size := cell_lt (cell_blk (i := 0) E0.out rfl)
  refine (light_any _ OA NA on oc nn nc g _ 2 2 _ W (Nat.le_refl _) Hg.out Hrr.out).mono ?_
  rintro e w2 ⟨rfl, hb2⟩
  have Hb2 := hide hb2
  have c0 : W.cell? ⟨w.heap.size, 0, none⟩ = some (.slice OA on oc) := cell_blk E0.out rfl
  have c1 : W.cell? ⟨w.heap.size, 1, none⟩ = some (.slice NA nn nc) := cell_blk E0.out rfl
  clear hb2
  cases hlb : lightB g [l, l2]
  · clear hlb c0 c1
    go_wp2_with fail
    refine (c_awake (W := W) Hb2).mono ?_
    rintro e w3 ⟨rfl, hx1, hx2, hx3⟩
    go_wp2_with fail
    go_ret
    exact ⟨rfl, Hbx.out.trans (hx2.out.mono (by omega))⟩
  · clear hlb Hrr
    obtain ⟨f0, f1⟩ := keep2 Hb2 h1 c0 c1
    go_wp2_with fail
    refine (c_rmay (W := W) Hg Hb2 Hb2).mono ?_
    rintro e w3 ⟨rfl, x1, Hb3, x3⟩
    clear x1 x3 f0 f1 Hb2
    by_cases hm : mayG g = 0
    · have hm' : (mayG g != 0) = false := by simp [hm]
      obtain ⟨m1, m2, m3⟩ := may_facts hm
      have hl1' := Hg.out.own.len
      have hl2' := Hg.out.nxt.len
      simp only at hl1' hl2'
      obtain rfl : nn = on := by omega
      have hon : nn ≤ 3000 := by omega
      have Hm := hide hm
      have HL : Hid (g.own.length = nn) := hide hl1'
      have Hms : Hid (nn ≤ 2 ^ 48) := hide (by omega)
      clear m1 m2 m3 hl1' hl2' hm
      obtain ⟨who, hk01, hwe⟩ := who2 who0
      obtain ⟨d0, d1⟩ := keep2 Hb3 h1 c0 c1
      have Hs3 := hide (Hb3.out.drew)
      rcases hk01 with rfl | rfl
      · have hww0 : IntKind.i64.wrap 0 = 0 := by decide
        have hww1 : IntKind.i64.wrap 1 = 1 := by decide
        go_wp2_with fail
        clear hwe hww0 hww1
        go_region_held3 (fun w' => w'.cell? ⟨w.heap.size, 0, none⟩ = some (.slice OA nn oc) ∧ w'.cell? ⟨w.heap.size, 1, none⟩ = some (.slice NA nn nc))
          (first | exact keep2 (by assumption) h1 c0 c1)
          (first
            | (go_at_call 15; refine (c_force (W := W) Hg (by assumption) (by assumption) (by assumption) (by assumption)).mono ?_; rintro e wx ⟨xA, xn, xc, rfl, hkx, x1, x2, x3⟩))
        rename_i wA aA an ac hka a1 a2 a3 hHeld
        clear hHeld
        have HA0 : Hid (RB wx wx.heap.size ⟨aA, an, ac⟩ ((List.range nn).map (fAt g 0 l))) := hide (by have h := rb_x hka x1; rw [forceL_eq Hm.out (by decide), HL.out] at h; exact h)
        have HB0 : Hid (RB wx wx.heap.size ⟨xA, xn, xc⟩ ((List.range nn).map (fAt g 0 l2))) := hide (by have h := hkx.out; rw [forceL_eq Hm.out (by decide), HL.out] at h; exact h)
        have Hb4 := x2
        clear hka hkx a1 a2 a3 x1 x2 x3 d0 d1 Hs3 Hb3
        generalize xA = bA at *
        generalize xn = bn at *
        generalize xc = bc at *
        generalize wx = w4 at *
        obtain ⟨d0, d1⟩ := keep2 Hb4 h1 c0 c1
        have Hs4 := hide (Hb4.out.drew)
        go_wp2_with fail
        go_region_held3 (fun w' => w'.cell? ⟨w.heap.size, 0, none⟩ = some (.slice OA nn oc) ∧ w'.cell? ⟨w.heap.size, 1, none⟩ = some (.slice NA nn nc))
          (first | exact keep2 (by assumption) h1 c0 c1)
          (first
            | (go_at_call 15; refine (c_force (W := W) Hg (by assumption) (by assumption) (by assumption) (by assumption)).mono ?_; rintro e wx ⟨xA, xn, xc, rfl, hkx, x1, x2, x3⟩)
            | (go_at_call 10; refine (c_and (W := W) (l := l) (l2 := l2) Hms Hg (by assumption) Hr (by assumption) Ht (by assumption) (by assumption)).mono ?_; rintro e wy ⟨yA, yn, yc, rfl, hky, y1, y2, y3⟩)
            | (go_at_call 11; refine (c_or (W := W) (l := l) (l2 := l2) Hms Hg (by assumption) Hr (by assumption) Ht (by assumption) (by assumption)).mono ?_; rintro e wz ⟨zA, zn, zc, rfl, hkz, z1, z2, z3⟩))
        rename_i wA cA cn cc hka a1 a2 a3 hHeld
        clear hHeld
        have Hdx : Hid (Below w4.heap.size w4 wx) := hide (((((Below.refl _ _).drew).trans (y1.out.mono (Nat.le_refl _))).trans ((a1.out.trans (z1.out.mono a1.out.size)).mono y1.out.size)).trans (x1.out.mono (by have h1 := y1.out.size; have h2 := a1.out.size; have h3 := z1.out.size; have h0 : w4.drew.heap.size = w4.heap.size := rfl; omega)))
        have HA := hide (rb_x HA0 Hdx)
        have HB := hide (rb_x HB0 Hdx)
        have HC : Hid (RB wx wx.heap.size ⟨cA, cn, cc⟩ ((List.range nn).map (fAt g 0 (andL nn l l2)))) := hide (by have h := rb_x (hide (rb_x hka z1)) x1; rw [forceL_eq Hm.out (by decide), HL.out] at h; exact h)
        have HD : Hid (RB wx wx.heap.size ⟨xA, xn, xc⟩ ((List.range nn).map (fAt g 0 (orL nn l l2)))) := hide (by have h := hkx.out; rw [forceL_eq Hm.out (by decide), HL.out] at h; exact h)
        have HW := x2
        have hal := HA.out.len
        have hbl := HB.out.len
        have hcl := HC.out.len
        have hdl := HD.out.len
        simp at hal hbl hcl hdl
        subst hal
        subst hbl
        subst hcl
        subst hdl
        clear hka hkx hky hkz a1 a2 a3 y1 y2 y3 z1 z2 z3 x1 x2 x3 d0 d1 Hs4 Hb4 Hnil HA0 HB0 Hdx
        obtain ⟨d0, d1⟩ := keep2 HW h1 c0 c1
        have D0 := hide d0
        have Hgx := hide (rg_x Hg HW)
        have hs0 : ((nn : Int) != (nn : Int)) = false := by simp
        have h1x : w.heap.size < wx.heap.size := cell_lt d0
        clear c0 c1 E0 Hg Hr Ht d1
        go_wp2_with fail
        clear d0
        go_loopw [81] (fun i wr => ∃ k : Nat, k ≤ nn ∧ i = .int .i64 k ∧ Below wx.heap.size wx wr) (fun i _ => nn - (intOf i).toNat)
        case atStart => exact ⟨0, Nat.zero_le _, rfl, Below.refl _ _⟩
        case round =>
          obtain ⟨k, hk, rfl, hb⟩ := hrel
          have Hb := hide hb
          by_cases hlt : k < nn
          · have hlt' : (k : Int) < (nn : Int) := by omega
            have hk0 : (0 : Int) ≤ (k : Int) := by omega
            obtain ⟨ba, oa, rfl, hba, qa⟩ := rb_map (HA.out.below hb) hlt
            obtain ⟨bb, ob, rfl, hbb, qb⟩ := rb_map (HB.out.below hb) hlt
            obtain ⟨bc, oc', rfl, hbc, qc⟩ := rb_map (HC.out.below hb) hlt
            obtain ⟨bd, od, rfl, hbd, qd⟩ := rb_map (HD.out.below hb) hlt
            obtain ⟨b, off, x0, rfl, hbB, hx, hc⟩ := (Hgx.out.below hb).own.at_ hlt
            have e0 := (hb.cell (p := ⟨w.heap.size, 0, none⟩) h1x).trans D0.out
            have go0 := getD_at (d := (0 : Int)) hx
            have Ho : Hid (x0 = 0 → fAt g 0 (orL nn l l2) k = (fAt g 0 l k || fAt g 0 l2 k) ∧ (fAt g 0 (andL nn l l2) k = true → fAt g 0 l k = true ∧ fAt g 0 l2 k = true)) := hide (fun hz => by
              have h := f_grow_own Hm.out (who := 0) (a := l) (b := l2) (v := k) (by rw [HL.out]; exact hlt) (by rw [go0]; exact hz)
              rw [HL.out] at h; exact h)
            have Hn : Hid (x0 ≠ 0 → fAt g 0 (andL nn l l2) k = (fAt g 0 l k && fAt g 0 l2 k) ∧ ((fAt g 0 l k = true ∨ fAt g 0 l2 k = true) → fAt g 0 (orL nn l l2) k = true)) := hide (fun hz => by
              have h := f_grow_oth Hm.out (who := 0) (a := l) (b := l2) (v := k) (by rw [HL.out]; exact hlt) (by rw [go0]; exact hz)
              rw [HL.out] at h; exact h)
            generalize fAt g 0 l k = p at *
            generalize fAt g 0 l2 k = q at *
            generalize fAt g 0 (andL nn l l2) k = pq at *
            generalize fAt g 0 (orL nn l l2) k = pr at *
            clear hb hx go0
            by_cases hz : x0 = 0
            · obtain ⟨hr1, hr2⟩ := Ho.out hz
              subst hr1
              have hz1 : (x0 == 0) = true := by simp [hz]
              have hz2 : (x0 != 0) = false := by simp [hz]
              clear Ho Hn hz
              cases p
              all_goals cases q
              all_goals cases pq
              all_goals first
                | exact absurd (hr2 rfl).1 (by decide)
                | exact absurd (hr2 rfl).2 (by decide)
                | skip
              all_goals
                clear hr2
                simp only [Bool.or_self, Bool.or_true, Bool.true_or, Bool.or_false, Bool.false_or] at qd
                go_wp2_with fail
                go_quiet (fail)
                go_wp2_with fail
                go_roundw
                case rel => exact ⟨k + 1, by omega, by go_num, Hb.out.trans ⟨rfl, rfl, rfl, Nat.le_refl _, fun _ _ => rfl⟩⟩
                case measure => simp [intOf]; omega
            · obtain ⟨hr1, hr2⟩ := Hn.out hz
              subst hr1
              have hz1 : (x0 == 0) = false := by simp [hz]
              have hz2 : (x0 != 0) = true := by simp [hz]
              clear Ho Hn hz
              cases p
              all_goals cases q
              all_goals cases pr
              all_goals first
                | exact absurd (hr2 (.inl rfl)) (by decide)
                | exact absurd (hr2 (.inr rfl)) (by decide)
                | skip
              all_goals
                clear hr2
                simp only [Bool.and_self, Bool.and_true, Bool.true_and, Bool.and_false, Bool.false_and] at qc
                go_wp2_with fail
                go_quiet (fail)
                go_wp2_with fail
                go_roundw
                case rel => exact ⟨k + 1, by omega, by go_num, Hb.out.trans ⟨rfl, rfl, rfl, Nat.le_refl _, fun _ _ => rfl⟩⟩
                case measure => simp [intOf]; omega
          · have hlt' : ¬ (k : Int) < (nn : Int) := by omega
            go_wp2_with fail
            refine (awake_any _).mono ?_
            rintro e w9 ⟨rfl, hb9⟩
            go_wp2_with fail
            go_ret
            exact ⟨rfl, Hbx.out.trans ((HW.out.trans ((Hb.out.trans (hb9.mono Hb.out.size)).mono HW.out.size)).mono Hbx.out.size)⟩
      · have hww0 : IntKind.i64.wrap 0 = 0 := by decide
        have hww1 : IntKind.i64.wrap 1 = 1 := by decide
        go_wp2_with fail
        clear hwe hww0 hww1
        go_region_held3 (fun w' => w'.cell? ⟨w.heap.size, 0, none⟩ = some (.slice OA nn oc) ∧ w'.cell? ⟨w.heap.size, 1, none⟩ = some (.slice NA nn nc))
          (first | exact keep2 (by assumption) h1 c0 c1)
          (first
            | (go_at_call 15; refine (c_force (W := W) Hg (by assumption) (by assumption) (by assumption) (by assumption)).mono ?_; rintro e wx ⟨xA, xn, xc, rfl, hkx, x1, x2, x3⟩))
        rename_i wA aA an ac hka a1 a2 a3 hHeld
        clear hHeld
        have HA0 : Hid (RB wx wx.heap.size ⟨aA, an, ac⟩ ((List.range nn).map (fAt g 1 l))) := hide (by have h := rb_x hka x1; rw [forceL_eq Hm.out (by decide), HL.out] at h; exact h)
        have HB0 : Hid (RB wx wx.heap.size ⟨xA, xn, xc⟩ ((List.range nn).map (fAt g 1 l2))) := hide (by have h := hkx.out; rw [forceL_eq Hm.out (by decide), HL.out] at h; exact h)
        have Hb4 := x2
        clear hka hkx a1 a2 a3 x1 x2 x3 d0 d1 Hs3 Hb3
        generalize xA = bA at *
        generalize xn = bn at *
        generalize xc = bc at *
        generalize wx = w4 at *
        obtain ⟨d0, d1⟩ := keep2 Hb4 h1 c0 c1
        have Hs4 := hide (Hb4.out.drew)
        go_wp2_with fail
        go_region_held3 (fun w' => w'.cell? ⟨w.heap.size, 0, none⟩ = some (.slice OA nn oc) ∧ w'.cell? ⟨w.heap.size, 1, none⟩ = some (.slice NA nn nc))
          (first | exact keep2 (by assumption) h1 c0 c1)
          (first
            | (go_at_call 15; refine (c_force (W := W) Hg (by assumption) (by assumption) (by assumption) (by assumption)).mono ?_; rintro e wx ⟨xA, xn, xc, rfl, hkx, x1, x2, x3⟩)
            | (go_at_call 10; refine (c_and (W := W) (l := l) (l2 := l2) Hms Hg (by assumption) Hr (by assumption) Ht (by assumption) (by assumption)).mono ?_; rintro e wy ⟨yA, yn, yc, rfl, hky, y1, y2, y3⟩)
            | (go_at_call 11; refine (c_or (W := W) (l := l) (l2 := l2) Hms Hg (by assumption) Hr (by assumption) Ht (by assumption) (by assumption)).mono ?_; rintro e wz ⟨zA, zn, zc, rfl, hkz, z1, z2, z3⟩))
        rename_i wA cA cn cc hka a1 a2 a3 hHeld
        clear hHeld
        have Hdx : Hid (Below w4.heap.size w4 wx) := hide (((((Below.refl _ _).drew).trans (y1.out.mono (Nat.le_refl _))).trans ((a1.out.trans (z1.out.mono a1.out.size)).mono y1.out.size)).trans (x1.out.mono (by have h1 := y1.out.size; have h2 := a1.out.size; have h3 := z1.out.size; have h0 : w4.drew.heap.size = w4.heap.size := rfl; omega)))
        have HA := hide (rb_x HA0 Hdx)
        have HB := hide (rb_x HB0 Hdx)
        have HC : Hid (RB wx wx.heap.size ⟨cA, cn, cc⟩ ((List.range nn).map (fAt g 1 (andL nn l l2)))) := hide (by have h := rb_x (hide (rb_x hka z1)) x1; rw [forceL_eq Hm.out (by decide), HL.out] at h; exact h)
        have HD : Hid (RB wx wx.heap.size ⟨xA, xn, xc⟩ ((List.range nn).map (fAt g 1 (orL nn l l2)))) := hide (by have h := hkx.out; rw [forceL_eq Hm.out (by decide), HL.out] at h; exact h)
        have HW := x2
        have hal := HA.out.len
        have hbl := HB.out.len
        have hcl := HC.out.len
        have hdl := HD.out.len
        simp at hal hbl hcl hdl
        subst hal
        subst hbl
        subst hcl
        subst hdl
        clear hka hkx hky hkz a1 a2 a3 y1 y2 y3 z1 z2 z3 x1 x2 x3 d0 d1 Hs4 Hb4 Hnil HA0 HB0 Hdx
        obtain ⟨d0, d1⟩ := keep2 HW h1 c0 c1
        have D0 := hide d0
        have Hgx := hide (rg_x Hg HW)
        have hs0 : ((nn : Int) != (nn : Int)) = false := by simp
        have h1x : w.heap.size < wx.heap.size := cell_lt d0
        clear c0 c1 E0 Hg Hr Ht d1
        go_wp2_with fail
        clear d0
        go_loopw [81] (fun i wr => ∃ k : Nat, k ≤ nn ∧ i = .int .i64 k ∧ Below wx.heap.size wx wr) (fun i _ => nn - (intOf i).toNat)
        case atStart => exact ⟨0, Nat.zero_le _, rfl, Below.refl _ _⟩
        case round =>
          obtain ⟨k, hk, rfl, hb⟩ := hrel
          have Hb := hide hb
          by_cases hlt : k < nn
          · have hlt' : (k : Int) < (nn : Int) := by omega
            have hk0 : (0 : Int) ≤ (k : Int) := by omega
            obtain ⟨ba, oa, rfl, hba, qa⟩ := rb_map (HA.out.below hb) hlt
            obtain ⟨bb, ob, rfl, hbb, qb⟩ := rb_map (HB.out.below hb) hlt
            obtain ⟨bc, oc', rfl, hbc, qc⟩ := rb_map (HC.out.below hb) hlt
            obtain ⟨bd, od, rfl, hbd, qd⟩ := rb_map (HD.out.below hb) hlt
            obtain ⟨b, off, x0, rfl, hbB, hx, hc⟩ := (Hgx.out.below hb).own.at_ hlt
            have e0 := (hb.cell (p := ⟨w.heap.size, 0, none⟩) h1x).trans D0.out
            have go0 := getD_at (d := (0 : Int)) hx
            have Ho : Hid (x0 = 1 → fAt g 1 (orL nn l l2) k = (fAt g 1 l k || fAt g 1 l2 k) ∧ (fAt g 1 (andL nn l l2) k = true → fAt g 1 l k = true ∧ fAt g 1 l2 k = true)) := hide (fun hz => by
              have h := f_grow_own Hm.out (who := 1) (a := l) (b := l2) (v := k) (by rw [HL.out]; exact hlt) (by rw [go0]; exact hz)
              rw [HL.out] at h; exact h)
            have Hn : Hid (x0 ≠ 1 → fAt g 1 (andL nn l l2) k = (fAt g 1 l k && fAt g 1 l2 k) ∧ ((fAt g 1 l k = true ∨ fAt g 1 l2 k = true) → fAt g 1 (orL nn l l2) k = true)) := hide (fun hz => by
              have h := f_grow_oth Hm.out (who := 1) (a := l) (b := l2) (v := k) (by rw [HL.out]; exact hlt) (by rw [go0]; exact hz)
              rw [HL.out] at h; exact h)
            generalize fAt g 1 l k = p at *
            generalize fAt g 1 l2 k = q at *
            generalize fAt g 1 (andL nn l l2) k = pq at *
            generalize fAt g 1 (orL nn l l2) k = pr at *
            clear hb hx go0
            by_cases hz : x0 = 1
            · obtain ⟨hr1, hr2⟩ := Ho.out hz
              subst hr1
              have hz1 : (x0 == 1) = true := by simp [hz]
              have hz2 : (x0 != 1) = false := by simp [hz]
              clear Ho Hn hz
              cases p
              all_goals cases q
              all_goals cases pq
              all_goals first
                | exact absurd (hr2 rfl).1 (by decide)
                | exact absurd (hr2 rfl).2 (by decide)
                | skip
              all_goals
                clear hr2
                simp only [Bool.or_self, Bool.or_true, Bool.true_or, Bool.or_false, Bool.false_or] at qd
                go_wp2_with fail
                go_quiet (fail)
                go_wp2_with fail
                go_roundw
                case rel => exact ⟨k + 1, by omega, by go_num, Hb.out.trans ⟨rfl, rfl, rfl, Nat.le_refl _, fun _ _ => rfl⟩⟩
                case measure => simp [intOf]; omega
            · obtain ⟨hr1, hr2⟩ := Hn.out hz
              subst hr1
              have hz1 : (x0 == 1) = false := by simp [hz]
              have hz2 : (x0 != 1) = true := by simp [hz]
              clear Ho Hn hz
              cases p
              all_goals cases q
              all_goals cases pr
              all_goals first
                | exact absurd (hr2 (.inl rfl)) (by decide)
                | exact absurd (hr2 (.inr rfl)) (by decide)
                | skip
              all_goals
                clear hr2
                simp only [Bool.and_self, Bool.and_true, Bool.true_and, Bool.and_false, Bool.false_and] at qc
                go_wp2_with fail
                go_quiet (fail)
                go_wp2_with fail
                go_roundw
                case rel => exact ⟨k + 1, by omega, by go_num, Hb.out.trans ⟨rfl, rfl, rfl, Nat.le_refl _, fun _ _ => rfl⟩⟩
                case measure => simp [intOf]; omega
          · have hlt' : ¬ (k : Int) < (nn : Int) := by omega
            go_wp2_with fail
            refine (awake_any _).mono ?_
            rintro e w9 ⟨rfl, hb9⟩
            go_wp2_with fail
            go_ret
            exact ⟨rfl, Hbx.out.trans ((HW.out.trans ((Hb.out.trans (hb9.mono Hb.out.size)).mono HW.out.size)).mono Hbx.out.size)⟩
    · have hm' : (mayG g != 0) = true := by simp [hm]
      clear hm c0 c1
      go_wp2_with fail
      refine (c_awake (W := W) Hb3).mono ?_
      rintro e w4 ⟨rfl, hx1, hx2, hx3⟩
      go_wp2_with fail
      go_ret
      exact ⟨rfl, Hbx.out.trans (hx2.out.mono (by omega))⟩
end Go.Proofs.Ytnecihnhlkaajaa.Gr
