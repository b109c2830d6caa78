/- The walk of PreForms. -/
import Derived.Test.YtnecihnhlkaajaaPCalls
import Derived.Deep.RegionHeld3
import Derived.Deep.CutRange
namespace Go.Proofs.Ytnecihnhlkaajaa.Gr
open Go.RowKit
open Go.Sort (grow)
set_option linter.unusedSimpArgs false
set_option linter.unusedVariables false
set_option maxRecDepth 100000 in
set_option maxHeartbeats 4000000 in
theorem pforms_any (B : Nat) (OA NA : Option Addr) (on oc nn nc : Nat) (g : GT) (who : Int) (A3 : Option Addr) (n3 c3 : Nat) (l : List Bool) (A4 : Option Addr) (n4 c4 : Nat) (l2 : List Bool) (w : World) (hB : B ≤ w.heap.size)
    (hg : RG w B ⟨OA, on, oc⟩ ⟨NA, nn, nc⟩ g) (hr : RB w B ⟨A3, n3, c3⟩ l) (ht : RB w B ⟨A4, n4, c4⟩ l2) (hm : on ≤ 2 ^ 48) :
    Calls Try.prog 3 #[.agg #[.slice OA on oc, .slice NA nn nc], .int .i64 who, .slice A3 n3 c3, .slice A4 n4 c4] w fun e w' => e = .returned (.bool true) ∧ Below w.heap.size w w' := by
  have hbx : Below w.heap.size w ((w.alloc (.cells #[.slice OA on oc, .slice NA nn nc] 25)).alloc (.cells #[.slice A3 n3 c3, .slice A4 n4 c4] 26)) := ((Below.refl _ _).alloc (Nat.le_refl _) _).alloc (by simp) _
  have e0 := (Below.heap_alloc _ (.cells #[.slice A3 n3 c3, .slice A4 n4 c4] 26) w.heap.size (by rw [size_al]; omega)).trans (new_at (w := w) (o := .cells #[.slice OA on oc, .slice NA nn nc] 25) rfl)
  have e1 : ((w.alloc (.cells #[.slice OA on oc, .slice NA nn nc] 25)).alloc (.cells #[.slice A3 n3 c3, .slice A4 n4 c4] 26)).heap[w.heap.size + 1]? = some (.cells #[.slice A3 n3 c3, .slice A4 n4 c4] 26) := new_at (by rw [size_al])
  have Hg := hide ((hg.below (hbx.mono hB)).more (Nat.le_trans hB hbx.size))
  have Hr := hide ((RB.below hr (hbx.mono hB)).more (Nat.le_trans hB hbx.size))
  have Ht := hide ((RB.below ht (hbx.mono hB)).more (Nat.le_trans hB hbx.size))
  have Hrr := hide (rrb_two e1 Hr.out Ht.out)
  have E0 := hide e0
  have Hbx := hide hbx
  have Hm := hide hm
  have hon : on ≤ 2 ^ 63 - 1 := by omega
  clear hg hr ht hbx e0 e1 hm
  go_enter Try.func3, Try.ntmps3
  go_wp2_with fail
  generalize (w.alloc (.cells #[.slice OA on oc, .slice NA nn nc] 25)).alloc (.cells #[.slice A3 n3 c3, .slice A4 n4 c4] 26) = W at *
  have h1 : w.heap.size < W.heap.size := cell_lt (cell_blk (i := 0) E0.out rfl)
  refine (light_any _ OA NA on oc nn nc g _ 2 2 _ W (Nat.le_refl _) Hg.out Hrr.out).mono ?_
  rintro e w2 ⟨rfl, hb2⟩
  have Hb2 := hide hb2
  have c0 : W.cell? ⟨w.heap.size, 0, none⟩ = some (.slice OA on oc) := cell_blk E0.out rfl
  have c1 : W.cell? ⟨w.heap.size, 1, none⟩ = some (.slice NA nn nc) := cell_blk E0.out rfl
  clear hb2
  cases hlb : lightB g [l, l2]
  · clear hlb c0 c1
    go_wp2_with fail
    refine (c_awake (W := W) Hb2).mono ?_
    rintro e w3 ⟨rfl, hx1, hx2, hx3⟩
    go_wp2_with fail
    go_ret
    exact ⟨rfl, Hbx.out.trans (hx2.out.mono (by omega))⟩
  · clear hlb Hrr
    obtain ⟨f0, f1⟩ := keep2 Hb2 h1 c0 c1
    have Hs2 := hide (Hb2.out.drew)
    go_wp2_with fail
    go_region_held3 (fun w' => w'.cell? ⟨w.heap.size, 0, none⟩ = some (.slice OA on oc) ∧ w'.cell? ⟨w.heap.size, 1, none⟩ = some (.slice NA nn nc))
      (first | exact keep2 (by assumption) h1 c0 c1)
      (first
        | (go_at_call 9; refine (c_not (W := W) (by assumption) (by assumption) (by assumption) (by assumption) (by assumption) (by assumption)).mono ?_; rintro e wx ⟨xA, xn, xc, rfl, hkx, x1, x2, x3⟩)
        | (go_at_call 10; refine (c_and (W := W) (l := l) (l2 := l2) (by assumption) (by assumption) (by assumption) Hr (by assumption) Ht (by assumption) (by assumption)).mono ?_; rintro e wy ⟨yA, yn, yc, rfl, hky, y1, y2, y3⟩)
        | (go_at_call 11; refine (c_or (W := W) (l := l) (l2 := l2) (by assumption) (by assumption) (by assumption) Hr (by assumption) Ht (by assumption) (by assumption)).mono ?_; rintro e wz ⟨zA, zn, zc, rfl, hkz, z1, z2, z3⟩))
    have hxl := hkx.out.len
    have hyl := hky.out.len
    have hzl := hkz.out.len
    simp [notL, andL, orL] at hxl hyl hzl
    obtain rfl : xn = on := by omega
    obtain rfl : yn = xn := by omega
    obtain rfl : zn = yn := by omega
    have Hx := hide (rb_x (hide (rb_x hkx y1)) z1)
    have Hy := hide (rb_x hky z1)
    have Hz := hkz
    have HW := z2
    have Hgz := hide (rg_x Hg HW)
    have Hrz := hide (rb_x Hr HW)
    have Htz := hide (rb_x Ht HW)
    obtain ⟨d0, d1⟩ := keep2 HW h1 c0 c1
    have D0 := hide d0
    have D1 := hide d1
    have hs0 : ((zn : Int) != (zn : Int)) = false := by simp
    clear hkx hky hkz x1 x2 x3 y1 y2 y3 z1 z2 z3 hxl hyl hzl f0 f1 Hs2 Hb2 d0 d1 E0 Hg Hr Ht
    go_wp2_with fail
    go_loopw [10, 55] (fun s i wr => ∃ k : Nat, k ≤ zn ∧ i = .int .i64 k ∧ s = .int .i64 (countL k l : Nat) ∧ wr = wz) (fun _ i _ => zn - (intOf i).toNat)
    case atStart => exact ⟨0, Nat.zero_le _, rfl, rfl, rfl⟩
    case round =>
      obtain ⟨k, hk, rfl, rfl, hwr⟩ := hrel
      subst hwr
      by_cases hlt : k < zn
      · have hlt' : (k : Int) < (zn : Int) := by omega
        have hk0 : (0 : Int) ≤ (k : Int) := by omega
        obtain ⟨bx, ox, rfl, hbx, qx⟩ := rb_map Hx.out hlt
        obtain ⟨by', oy, rfl, hby, qy⟩ := rb_map Hy.out hlt
        obtain ⟨bz, oz, rfl, hbz, qz⟩ := rb_map Hz.out hlt
        have hcl := count_le l k
        have Hs := hide (count_succ l k)
        generalize countL k l = q at *
        have Hp := hide (hasB_nat l k)
        have Hq := hide (hasB_nat l2 k)
        generalize l.getD k false = p at *
        generalize l2.getD k false = p2 at *
        go_wp2_with fail
        refine (has_any _ A3 n3 c3 l (k : Int) wr Hrz.out).mono ?_
        rintro e wx ⟨rfl, hwx⟩
        rw [hwx, Hp.out]
        clear hwx
        go_wp2_with fail
        refine (has_any _ A4 n4 c4 l2 (k : Int) wr Htz.out).mono ?_
        rintro e wx ⟨rfl, hwx⟩
        rw [hwx, Hq.out]
        clear hwx
        cases p
        all_goals cases p2
        all_goals
          simp only [Bool.not_false, Bool.not_true, Bool.and_self, Bool.and_false, Bool.false_and, Bool.and_true, Bool.or_self, Bool.or_true, Bool.true_or, Bool.or_false] at qx qy qz
          go_wp2_with fail
          go_roundw
          case rel => exact ⟨k + 1, by omega, by go_num, by rw [Hs.out]; first | rfl | go_num, by trivial⟩
          case measure => simp [intOf]; omega
      · have hlt' : ¬ (k : Int) < (zn : Int) := by omega
        obtain rfl : k = zn := by omega
        have hs := hide (Below.refl wr.heap.size wr).drew
        have Hbr := hide (Below.refl wr.heap.size wr)
        have hd0 := D0.out
        have hd1 := D1.out
        have hcl := count_le l k
        have h1r : w.heap.size < wr.heap.size := cell_lt hd0
        clear Hx Hy Hz
        generalize hqq : countL k l = q at *
        have hqe : ((q : Int) == (q : Int)) = true := by simp
        go_wp2_with fail
        go_region_held3 (fun w' => w'.cell? ⟨w.heap.size, 0, none⟩ = some (.slice OA k oc) ∧ w'.cell? ⟨w.heap.size, 1, none⟩ = some (.slice NA nn nc))
          (first | exact keep2 (by assumption) h1r hd0 hd1)
          (first
            | (go_at_call 13; refine (c_count (W := wr) Hgz (by assumption) Hrz (by assumption) (by assumption)).mono ?_; rw [hqq]; rintro e w1 ⟨rfl, x1, x2, x3⟩)
            | (go_at_call 15; refine (c_force (W := wr) Hgz (by assumption) Hrz (by assumption) (by assumption)).mono ?_; rintro e w1 ⟨xA, xn, xc, rfl, hkx, x1, x2, x3⟩)
            | (go_at_call 16; refine (c_rforce (W := wr) Hgz (by assumption) Hrz (by assumption) (by assumption)).mono ?_; rintro e w1 ⟨yA, yn, yc, rfl, hky, y1, y2, y3⟩)
            | (go_at_call 14; refine (c_rrow (W := wr) hkx (by assumption) hky (by assumption) (by assumption)).mono ?_; rintro e w1 ⟨rfl, x1, x2, x3⟩)
            | (go_at_call 8; refine (c_awake (W := wr) (by assumption)).mono ?_; rintro e w1 ⟨rfl, z1, z2, z3⟩))
        go_wp2_with fail
        go_ret
        exact ⟨rfl, Hbx.out.trans ((HW.out.trans (z2.out.mono HW.out.size)).mono Hbx.out.size)⟩
end Go.Proofs.Ytnecihnhlkaajaa.Gr
