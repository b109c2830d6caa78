/- The walk of GraphReaches. -/
import Derived.Test.YtdcdpknlloffjaaGTurned
import Derived.Test.YtdcdpknlloffjaaGOnce
import Derived.Deep.QuietTactic
namespace Go.Proofs.Ytdcdpknlloffjaa.Gr
open Go.RowKit
open Go.Sort (grow)
set_option linter.unusedSimpArgs false
set_option linter.unusedVariables false

theorem rch_or {nxt : List (List Int)} {f h : Nat → Bool} {n v : Nat} : Rch nxt (fun v => f v || h v) n v ↔ Rch nxt f n v ∨ Rch nxt h n v := by
  constructor
  · intro hr
    induction hr with
    | base h1 h2 =>
      rw [Bool.or_eq_true] at h2
      rcases h2 with h2 | h2
      · exact .inl (.base h1 h2)
      · exact .inr (.base h1 h2)
    | step _ h1 h2 ih =>
      rcases ih with ih | ih
      · exact .inl (.step ih h1 h2)
      · exact .inr (.step ih h1 h2)
  · rintro (hr | hr)
    · induction hr with
      | base h1 h2 => exact .base h1 (by rw [h2]; rfl)
      | step _ h1 h2 ih => exact .step ih h1 h2
    · induction hr with
      | base h1 h2 => exact .base h1 (by rw [h2, Bool.or_true])
      | step _ h1 h2 ih => exact .step ih h1 h2
theorem reach_or {g : GT} (hm : mayG g = 0) {f h : Nat → Bool} {v : Nat} : reachAt g (fun v => f v || h v) v = (reachAt g f v || reachAt g h v) := by
  rw [Bool.eq_iff_iff, at_rch, rch_or, Bool.or_eq_true, at_rch, at_rch]
theorem reach_reach {g : GT} {l : List Bool} (hm : mayG g = 0) : reachL g (reachL g l) = reachL g l := by
  have e : ∀ v, v < g.own.length → (reachL g l).getD v false = reachAt g (fun v => l.getD v false) v := fun v hv => getD_at (reach_get hm hv)
  rw [reachL_pos (l := reachL g l) hm]
  conv => rhs; rw [reachL_pos hm]
  refine List.map_congr_left (fun v hv0 => ?_)
  clear hv0
  rw [reach_fr e, Bool.eq_iff_iff, at_rch]
  constructor
  · intro h
    rw [at_rch]
    induction h with
    | base h1 h2 => exact at_rch.1 h2
    | step _ h1 h2 ih => exact .step ih h1 h2
  · intro h
    have hv : v < g.own.length := rch_lt hm (at_rch.1 h)
    exact .base hv h

set_option maxRecDepth 100000 in
set_option maxHeartbeats 4000000 in
theorem reaches_any (B : Nat) (OA NA : Option Addr) (on oc nn nc : Nat) (g : GT) (A3 : Option Addr) (n3 c3 : Nat) (l : List Bool) (A4 : Option Addr) (n4 c4 : Nat) (l2 : List Bool) (w : World) (hB : B ≤ w.heap.size) (hg : RG w B ⟨OA, on, oc⟩ ⟨NA, nn, nc⟩ g) (hr : RB w B ⟨A3, n3, c3⟩ l) (ht : RB w B ⟨A4, n4, c4⟩ l2) :
    Calls Try.prog 5 #[.agg #[.slice OA on oc, .slice NA nn nc], .slice A3 n3 c3, .slice A4 n4 c4] w fun e w' => e = .returned (.bool true) ∧ Below w.heap.size w w' := by
  have hbx : Below w.heap.size w (w.alloc (.cells #[.slice OA on oc, .slice NA nn nc] 25)) := (Below.refl _ _).alloc (Nat.le_refl _) _
  have hz0 : w.heap.size + 1 ≤ (w.alloc (.cells #[.slice OA on oc, .slice NA nn nc] 25)).heap.size := by simp
  have Hg := hide ((hg.below (hbx.mono hB)).more (Nat.le_trans hB hbx.size))
  have hn3 : n3 ≤ 2 ^ 63 - 1 := Nat.le_trans hr.2.1 hr.2.2.1
  have hn4 : n4 ≤ 2 ^ 63 - 1 := Nat.le_trans ht.2.1 ht.2.2.1
  have Hr := hide ((RB.below hr (hbx.mono hB)).more (Nat.le_trans hB hbx.size))
  have Ht := hide ((RB.below ht (hbx.mono hB)).more (Nat.le_trans hB hbx.size))
  have Hbox := hide (box_new w OA NA on oc nn nc 25)
  have Hbx := hide hbx
  clear hg hr ht hbx
  go_enter Try.func5, Try.ntmps5
  go_wp2_with fail
  generalize w.alloc (.cells #[.slice OA on oc, .slice NA nn nc] 25) = W at *
  have h1 : w.heap.size < W.heap.size := by omega
  obtain ⟨c0, c1⟩ := Hbox.out
  simp only [SL.v] at c0 c1
  refine (heavy_any _ OA NA on oc nn nc g W (Nat.le_refl _) Hg.out).mono ?_
  rintro e w2 ⟨rfl, hb2⟩
  have h12 : w.heap.size < w2.heap.size := by have := hb2.size; omega
  have Hb2 := hide hb2
  obtain ⟨c0', c1'⟩ := keep2 hb2 h1 c0 c1
  clear hb2
  cases hh : decide (0 < hvG g)
  · go_wp2_with fail
    refine (rmay_any _ OA NA on oc nn nc g w2 (Nat.le_refl _) (rg_x Hg Hb2)).mono ?_
    rintro e w3 ⟨rfl, hb3⟩
    have Hb3 := hide (Hb2.out.trans (hb3.mono Hb2.out.size))
    obtain ⟨d0, d1⟩ := keep2 Hb3.out h1 c0 c1
    clear hb3 c0' c1' hh
    by_cases hm : mayG g = 0
    · have hm' : (mayG g != 0) = false := by simp [hm]
      obtain ⟨m1, m2, m3⟩ := may_facts hm
      have hl1 := Hg.out.own.len
      have hl2 := Hg.out.nxt.len
      simp only at hl1 hl2
      obtain rfl : nn = on := by omega
      have hon : nn ≤ 3000 := by omega
      have Hm := hide hm
      have HL : Hid (g.own.length = nn) := hide hl1
      clear m1 m2 m3 hl1 hl2 hm
      by_cases hqn3 : 300 < n3
      · have hqn3' : (300 : Int) < (n3 : Int) := by omega
        go_wp2_with fail
        refine (awake_any _).mono ?_
        rintro e w4 ⟨rfl, hb4⟩
        have Hf := hide (Hbx.out.trans ((Hb3.out.trans (hb4.mono Hb3.out.size)).mono (by omega)))
        clear hb4
        go_wp2_with fail
        go_ret
        exact ⟨rfl, Hf.out⟩
      · have hqn3' : ¬ (300 : Int) < (n3 : Int) := by omega
        by_cases hqn4 : 300 < n4
        · have hqn4' : (300 : Int) < (n4 : Int) := by omega
          go_wp2_with fail
          refine (awake_any _).mono ?_
          rintro e w4 ⟨rfl, hb4⟩
          have Hf := hide (Hbx.out.trans ((Hb3.out.trans (hb4.mono Hb3.out.size)).mono (by omega)))
          clear hb4
          go_wp2_with fail
          go_ret
          exact ⟨rfl, Hf.out⟩
        · have hqn4' : ¬ (300 : Int) < (n4 : Int) := by omega
          go_wp2_with fail
          refine (c_reach (W := W) Hg Hb3 Hr Hb3 Hb3).mono ?_
          rintro e w4 ⟨rA, rn, rc, rfl, hk, hx1, hx2, hx3⟩
          obtain ⟨f0, f1⟩ := keep2 hx2.out h1 c0 c1
          have hrl := hk.out.len
          rw [reachL_len Hm.out, HL.out] at hrl
          simp only at hrl
          subst hrl
          have HR := hide (hk.out)
          have HW4 := hide (hx2.out)
          have hz4 := HW4.out.size
          have hs0 : ((nn : Int) != (nn : Int)) = false := by simp
          have Hg4 := hide (rg_x Hg HW4)
          have Hr4 := hide (rb_x Hr HW4)
          have Ht4 := hide (rb_x Ht HW4)
          have F0 := hide f0
          have F1 := hide f1
          have h14 : w.heap.size < w4.heap.size := by omega
          clear hk hx1 hx2 hx3 d0 d1 Hb2 Hb3 Hg Hr Ht c0 c1 f1
          go_wp2_with fail
          clear f0
          go_loopw [46] (fun i wr => ∃ k : Nat, k ≤ nn ∧ i = .int .i64 k ∧ wr = w4) (fun i _ => nn - (intOf i).toNat)
          case atStart => exact ⟨0, Nat.zero_le _, rfl, rfl⟩
          case round =>
            obtain ⟨k, hk, rfl, hwr⟩ := hrel
            subst hwr
            by_cases hlt : k < nn
            · have hlt' : (k : Int) < (nn : Int) := by omega
              obtain ⟨bx, ox, ex, hbx, hcx⟩ := HR.out.2.2.2.1 (by show 0 < nn; omega)
              simp only at ex
              subst ex
              have p1 := hcx k _ (reach_get Hm.out (by rw [HL.out]; exact hlt))
              have p1' : wr.cell? ⟨bx, ox + k, none⟩ = some (.bool (reachAt g (fun v => l.getD v false) k)) := p1
              have Hcx := hide hcx
              have Hba : Hid (hasB l (k : Int) = true → reachAt g (fun v => l.getD v false) k = true) := hide (fun h => at_rch.2 (.base (by rw [HL.out]; exact hlt) (by rw [← hasB_nat]; exact h)))
              obtain ⟨b2, off2, r, A2, n2, k2, rfl, hbB2, hrr, hc2, hri⟩ := Hg4.out.nxt.at_ hlt
              have e1 := F1.out
              have Hrow := hide (may_row Hm.out hrr)
              have Hri := hide hri
              have hn2 : n2 ≤ 3000 := by have q1 := Hrow.out.2.1; have q2 := hri.len; simp only at q2; omega
              have Hst : Hid (∀ q : Nat, (q : Int) ∈ r → reachAt g (fun v => l.getD v false) k = true → reachAt g (fun v => l.getD v false) q = true) := hide (fun q hq hz => at_rch.2 (.step (at_rch.1 hz) hrr hq))
              generalize hz : reachAt g (fun v => l.getD v false) k = z at *
              clear hz p1 hcx hrr hri
              go_wp2_with fail
              refine (has_any _ A3 n3 c3 l (k : Int) wr Hr4.out).mono ?_
              rintro e wx ⟨rfl, hwx⟩
              rw [hwx]
              clear hwx
              cases hha : hasB l (k : Int)
              · clear hha
                go_wp2_with fail
                go_loopw [65] (fun jj wr2 => ∃ j : Nat, j ≤ n2 ∧ jj = .int .i64 j ∧ wr2 = wr) (fun jj _ => n2 - (intOf jj).toNat)
                case atStart => exact ⟨0, Nat.zero_le _, rfl, rfl⟩
                case round =>
                  obtain ⟨j, hj, rfl, hwr⟩ := hrel
                  subst hwr
                  by_cases hlt2 : j < n2
                  · have hlt2' : (j : Int) < (n2 : Int) := by omega
                    obtain ⟨b3, off3, x, rfl, hbB3, hx, hc3⟩ := Hri.out.at_ hlt2
                    have hxm := List.mem_of_getElem? hx
                    obtain ⟨hx0, hx1⟩ := Hrow.out.2.2 x hxm
                    obtain ⟨q, rfl⟩ := Int.eq_ofNat_of_zero_le hx0
                    have hqn : q < nn := by have := HL.out; omega
                    have hqn' : (q : Int) < (nn : Int) := by omega
                    have hq0' : (0 : Int) ≤ (q : Int) := by omega
                    have p2 := Hcx.out q _ (reach_get Hm.out (by rw [HL.out]; exact hqn))
                    have Hq := hide (Hst.out q hxm)
                    clear hx hx0 hx1 hxm
                    cases z
                    · go_wp2_with fail
                      go_roundw
                      case rel => exact ⟨j + 1, by omega, by go_num, by trivial⟩
                      case measure => simp [intOf]; omega
                    · have p3 : wr.cell? ⟨bx, ox + q, none⟩ = some (Value.bool true) := p2.trans (by rw [Hq.out (by trivial)])
                      clear p2
                      go_wp2_with fail
                      go_roundw
                      case rel => exact ⟨j + 1, by omega, by go_num, by trivial⟩
                      case measure => simp [intOf]; omega
                  · have hlt2' : ¬ (j : Int) < (n2 : Int) := by omega
                    go_wp2_with fail
                    go_roundw
                    case rel => exact ⟨k + 1, by omega, by go_num, by trivial⟩
                    case measure => simp [intOf]; omega
              · have hzt := Hba.out hha
                subst hzt
                clear hha
                go_wp2_with fail
                go_loopw [65] (fun jj wr2 => ∃ j : Nat, j ≤ n2 ∧ jj = .int .i64 j ∧ wr2 = wr) (fun jj _ => n2 - (intOf jj).toNat)
                case atStart => exact ⟨0, Nat.zero_le _, rfl, rfl⟩
                case round =>
                  obtain ⟨j, hj, rfl, hwr⟩ := hrel
                  subst hwr
                  by_cases hlt2 : j < n2
                  · have hlt2' : (j : Int) < (n2 : Int) := by omega
                    obtain ⟨b3, off3, x, rfl, hbB3, hx, hc3⟩ := Hri.out.at_ hlt2
                    have hxm := List.mem_of_getElem? hx
                    obtain ⟨hx0, hx1⟩ := Hrow.out.2.2 x hxm
                    obtain ⟨q, rfl⟩ := Int.eq_ofNat_of_zero_le hx0
                    have hqn : q < nn := by have := HL.out; omega
                    have hqn' : (q : Int) < (nn : Int) := by omega
                    have hq0' : (0 : Int) ≤ (q : Int) := by omega
                    have p2 := Hcx.out q _ (reach_get Hm.out (by rw [HL.out]; exact hqn))
                    have Hq := hide (Hst.out q hxm)
                    clear hx hx0 hx1 hxm
                    have p3 : wr.cell? ⟨bx, ox + q, none⟩ = some (Value.bool true) := p2.trans (by rw [Hq.out (by trivial)])
                    clear p2
                    go_wp2_with fail
                    go_roundw
                    case rel => exact ⟨j + 1, by omega, by go_num, by trivial⟩
                    case measure => simp [intOf]; omega
                  · have hlt2' : ¬ (j : Int) < (n2 : Int) := by omega
                    go_wp2_with fail
                    go_roundw
                    case rel => exact ⟨k + 1, by omega, by go_num, by trivial⟩
                    case measure => simp [intOf]; omega
            · have hlt' : ¬ (k : Int) < (nn : Int) := by omega
              have hmk := make_bools nn (by omega)
              have hrow := mark_zero (f := fun v => hasB l (v : Int) || hasB l2 (v : Int)) (World.rowIs_made wr (.bool false) nn 4)
              have Hrow := hide hrow
              have Hal := hide (show Below wr.heap.size wr (wr.alloc (.cells (madeCells #[.bool false] nn) 4)) from (Below.refl _ _).alloc (Nat.le_refl _) _)
              clear hrow
              go_wp2_with fail
              clear hmk hlt hlt' hk
              obtain ⟨w5, rfl⟩ : ∃ w5, w5 = wr := ⟨_, rfl⟩
              go_loopw [87] (fun i wr => ∃ k : Nat, k ≤ nn ∧ i = .int .i64 k ∧ wr.rowIs w5.heap.size 4 nn (markV (fun v => hasB l (v : Int) || hasB l2 (v : Int)) k) ∧ Below w5.heap.size w5 wr) (fun i _ => nn - (intOf i).toNat)
              case atStart => exact ⟨0, Nat.zero_le _, rfl, Hrow.out, Hal.out⟩
              case round =>
                obtain ⟨k, hk, rfl, hrw, hb⟩ := hrel
                have hzr := hb.size
                have Hrw := hide hrw
                have Hb := hide hb
                by_cases hlt : k < nn
                · have hlt' : (k : Int) < (nn : Int) := by omega
                  obtain ⟨u0, hu0⟩ : ∃ u, wr.cell? ⟨w5.heap.size, k, none⟩ = some u := ⟨_, hrw.cell hlt⟩
                  have hfz := hrw.frozen k
                  have Hst := hide (mark_step hrw (v := (hasB l (k : Int) || hasB l2 (k : Int))) rfl)
                  have Hsb := hide (hb.setCell (p := ⟨w5.heap.size, k, none⟩) (Nat.le_refl _) (.bool (hasB l (k : Int) || hasB l2 (k : Int))))
                  clear hrw hb
                  go_wp2_with fail
                  refine (has_any _ A3 n3 c3 l (k : Int) wr (rb_x Hr4 Hb)).mono ?_
                  rintro e wx ⟨rfl, hwx⟩
                  rw [hwx]
                  clear hwx
                  cases hha : hasB l (k : Int)
                  · rw [hha] at Hst Hsb
                    rw [Bool.false_or] at Hst Hsb
                    clear hha
                    go_wp2_with fail
                    refine (has_any _ A4 n4 c4 l2 (k : Int) wr (rb_x Ht4 Hb)).mono ?_
                    rintro e wx2 ⟨rfl, hwx⟩
                    rw [hwx]
                    clear hwx
                    go_wp2_with fail
                    go_roundw
                    case rel => exact ⟨k + 1, by omega, by go_num, Hst.out, Hsb.out⟩
                    case measure => simp [intOf]; omega
                  · rw [hha] at Hst Hsb
                    rw [Bool.true_or] at Hst Hsb
                    clear hha
                    go_wp2_with fail
                    go_roundw
                    case rel => exact ⟨k + 1, by omega, by go_num, Hst.out, Hsb.out⟩
                    case measure => simp [intOf]; omega
                · have hlt' : ¬ (k : Int) < (nn : Int) := by omega
                  obtain rfl : k = nn := by omega
                  have HRB := hide (mark_done hrw (by unfold maxLen; omega))
                  have HR7 := hide (rb_x HR Hb)
                  have Hg7 := hide (rg_x Hg4 Hb)
                  have Hr7 := hide (rb_x Hr4 Hb)
                  have Ht7 := hide (rb_x Ht4 Hb)
                  have HW7 := hide (HW4.out.trans (hb.mono hz4))
                  have h17 : w.heap.size < wr.heap.size := by omega
                  obtain ⟨e0, e1⟩ := keep2 hb h14 F0.out F1.out
                  have Hs7 := hide (Below.refl wr.heap.size wr)
                  have Hd7 := hide ((Below.refl wr.heap.size wr).drew)
                  obtain ⟨w7, rfl⟩ : ∃ w7, w7 = wr := ⟨_, rfl⟩
                  clear hrw hb Hrw Hb HR Hg4 Hr4 Ht4 HW4 F0 F1 Hal Hrow hlt hlt' hk
                  go_wp2_with fail
                  go_upto_region 24 with fail
                  go_cut [13, 14] from 102 to 107 (fun s13 s14 wx => ∃ (A1 : Option Addr) (n1 c1 : Nat) (A2 : Option Addr) (n2 c2 : Nat), s13 = .slice A1 n1 c1 ∧ s14 = .slice A2 n2 c2 ∧ Hid (RB wx wx.heap.size ⟨A1, n1, c1⟩ (reachL g l2)) ∧ Hid (RB wx wx.heap.size ⟨A2, n2, c2⟩ (reachL g ((List.range k).map fun (v : Nat) => hasB l (v : Int) || hasB l2 (v : Int)))) ∧ Hid (Below w7.heap.size w7 wx))
                  case first =>
                    go_region_held3 (fun w' => w'.cell? ⟨w.heap.size, 0, none⟩ = some (.slice OA k oc) ∧ w'.cell? ⟨w.heap.size, 1, none⟩ = some (.slice NA k nc))
                      (first | exact keep2 (Hid.out (by assumption)) h17 e0 e1)
                      (first
                        | (go_at_call 18; refine (c_reach (W := w7) (by assumption) (by assumption) (by assumption) (by assumption) (by assumption)).mono ?_; rintro e w1 ⟨kA, kn, kc, rfl, hk, hx1, hx2, hx3⟩))
                    all_goals (go_wp2_with fail)
                    all_goals go_meet
                    all_goals exact ⟨_, _, _, _, _, _, rfl, rfl, hide (rb_x (by assumption) (by assumption)), (by assumption), (by assumption)⟩
                  case rest =>
                    obtain ⟨A1, n1, k1, A2, n2, k2, rfl, rfl, HX, HY, HW8⟩ := hcut
                    obtain ⟨w8, rfl⟩ : ∃ w8, w8 = wc := ⟨_, rfl⟩
                    have hz8 := HW8.out.size
                    have hl1 := HX.out.len
                    have hl2 := HY.out.len
                    rw [reachL_len Hm.out, HL.out] at hl1 hl2
                    simp only at hl1 hl2
                    subst hl1
                    subst hl2
                    have hs1 : ((k : Int) != (k : Int)) = false := by simp
                    have HR8 := hide (rb_x HR7 HW8)
                    have Hg8 := hide (rg_x Hg7 HW8)
                    obtain ⟨q0, q1⟩ := keep2 HW8.out h17 e0 e1
                    have Q0 := hide q0
                    have Q1 := hide q1
                    have h18 : w.heap.size < w8.heap.size := by omega
                    have HWb := hide (HW7.out.trans (HW8.out.mono (by omega)))
                    clear q0 q1 e0 e1
                    go_wp2_with fail
                    go_loopw [122] (fun i wr => ∃ j : Nat, j ≤ k ∧ i = .int .i64 j ∧ Below w8.heap.size w8 wr) (fun i _ => k - (intOf i).toNat)
                    case atStart => exact ⟨0, Nat.zero_le _, rfl, Below.refl _ _⟩
                    case round =>
                      obtain ⟨j, hj, rfl, hb⟩ := hrel
                      have hzr := hb.size
                      have Hb := hide hb
                      by_cases hlt : j < k
                      · have hlt' : (j : Int) < (k : Int) := by omega
                        obtain ⟨b1, o1, x1, rfl, hb1, hx1, hc1⟩ := (HX.out.below hb).at_ hlt
                        obtain ⟨b2, o2, x2, rfl, hb2, hx2, hc2⟩ := (HY.out.below hb).at_ hlt
                        obtain ⟨b3, o3, x3, rfl, hb3, hx3, hc3⟩ := (HR8.out.below hb).at_ hlt
                        have hjn : j < g.own.length := by rw [HL.out]; exact hlt
                        rw [reach_get Hm.out hjn] at hx1 hx2 hx3
                        injection hx1 with hx1
                        injection hx2 with hx2
                        injection hx3 with hx3
                        have hor : x2 = (x3 || x1) := by
                          rw [← hx2, ← hx3, ← hx1, ← reach_or Hm.out]
                          exact reach_fr (fun v hv => by rw [HL.out] at hv; simp [List.getD, hv, hasB_nat]) j
                        clear hx1 hx2 hx3 hjn hb
                        subst hor
                        cases x3
                        · cases x1
                          · go_wp2_with fail
                            go_quiet (fail)
                            have hbq : Below w8.heap.size w8 (wr.drewN nq) := ⟨Hb.out.os, Hb.out.tape, Hb.out.output, Hb.out.size, Hb.out.block⟩
                            go_wp2_with fail
                            go_roundw
                            case rel => exact ⟨j + 1, by omega, by go_num, hbq⟩
                            case measure => simp [intOf]; omega
                          · go_wp2_with fail
                            go_quiet (fail)
                            have hbq : Below w8.heap.size w8 (wr.drewN nq) := ⟨Hb.out.os, Hb.out.tape, Hb.out.output, Hb.out.size, Hb.out.block⟩
                            go_wp2_with fail
                            go_roundw
                            case rel => exact ⟨j + 1, by omega, by go_num, hbq⟩
                            case measure => simp [intOf]; omega
                        · have hc2' : wr.cell? ⟨b2, o2 + j, none⟩ = some (.bool true) := by rw [hc2, Bool.true_or]
                          clear hc2
                          go_wp2_with fail
                          go_quiet (fail)
                          have hbq : Below w8.heap.size w8 (wr.drewN nq) := ⟨Hb.out.os, Hb.out.tape, Hb.out.output, Hb.out.size, Hb.out.block⟩
                          go_wp2_with fail
                          go_roundw
                          case rel => exact ⟨j + 1, by omega, by go_num, hbq⟩
                          case measure => simp [intOf]; omega
                      · have hlt' : ¬ (j : Int) < (k : Int) := by omega
                        obtain ⟨e0, e1⟩ := keep2 hb h18 Q0.out Q1.out
                        have Hrr := hide (reach_reach (l := l) Hm.out)
                        have HWr := hide (HWb.out.trans (hb.mono (by have := HWb.out.size; omega)))
                        have hzf := HWb.out.size
                        clear hb
                        go_wp2_with fail
                        refine (c_reach2 (W := w8) Hrr Hg8 Hb HR8 Hb Hb).mono ?_
                        rintro e w9 ⟨kA, kn, kc, rfl, hk9, hx1, hx2, hx3⟩
                        have HX9 := hide hk9.out
                        have HW9 := hide hx2.out
                        have HS9 := hide hx3.out
                        clear hk9 hx1 hx2 hx3 e0 e1
                        go_wp2_with fail
                        refine (c_rrow (W := w8) HX9 HS9 HR8 HW9 HW9).mono ?_
                        rintro e w10 ⟨rfl, hx1, hx2, hx3⟩
                        have HW10 := hide hx2.out
                        clear hx1 hx2 hx3
                        go_wp2_with fail
                        refine (c_awake (W := w8) HW10).mono ?_
                        rintro e w11 ⟨rfl, hx1, hx2, hx3⟩
                        have Hf := hide (Hbx.out.trans ((HWb.out.trans (hx2.out.mono (by omega))).mono (by omega)))
                        clear hx1 hx2 hx3
                        go_wp2_with fail
                        go_ret
                        exact ⟨rfl, Hf.out⟩
    · have hm' : (mayG g != 0) = true := by simp [hm]
      clear hm
      go_wp2_with fail
      refine (awake_any _).mono ?_
      rintro e w4 ⟨rfl, hb4⟩
      have Hf := hide (Hbx.out.trans ((Hb3.out.trans (hb4.mono Hb3.out.size)).mono (by omega)))
      clear hb4
      go_wp2_with fail
      go_ret
      exact ⟨rfl, Hf.out⟩
  · go_wp2_with fail
    refine (awake_any _).mono ?_
    rintro e w4 ⟨rfl, hb4⟩
    have Hf := hide (Hbx.out.trans ((Hb2.out.trans (hb4.mono Hb2.out.size)).mono (by omega)))
    clear hb4
    go_wp2_with fail
    go_ret
    exact ⟨rfl, Hf.out⟩
end Go.Proofs.Ytdcdpknlloffjaa.Gr
