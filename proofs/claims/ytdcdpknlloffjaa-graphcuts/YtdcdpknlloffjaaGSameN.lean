/- The walks of what compares rows of rows, and games. -/
import Derived.Test.YtdcdpknlloffjaaGSame
namespace Go.Proofs.Ytdcdpknlloffjaa.Gr
open Go.RowKit
open Go.Sort (grow)
set_option linter.unusedSimpArgs false
set_option linter.unusedVariables false

set_option maxHeartbeats 1000000 in
theorem rnext_any (B : Nat) (A : Option Addr) (n c : Nat) (l : List (List Int)) (A2 : Option Addr) (n2 c2 : Nat) (l2 : List (List Int)) (w : World) (hB : B ≤ w.heap.size) (hr : RR w B ⟨A, n, c⟩ l) (hr2 : RR w B ⟨A2, n2, c2⟩ l2) :
    Calls Try.prog 14 #[.slice A n c, .slice A2 n2 c2] w fun e w' => e = .returned (.bool (decide (l = l2))) ∧ Below w.heap.size w w' := by
  have hn : n ≤ 2 ^ 63 - 1 := Nat.le_trans hr.2.1 hr.2.2.1
  have hn2 : n2 ≤ 2 ^ 63 - 1 := Nat.le_trans hr2.2.1 hr2.2.2.1
  have Hl : Hid (l.length = n) := hide hr.1
  have Hl2 : Hid (l2.length = n2) := hide hr2.1
  have Hr := hide hr
  have Hr2 := hide hr2
  clear hr hr2
  by_cases hl : n = n2
  · subst hl
    have hl' : ((n : Int) != (n : Int)) = false := by simp
    go_enter Try.func14, Try.ntmps14
    go_wp2_with fail
    go_loopw [13] (fun i wr => ∃ k : Nat, k ≤ n ∧ i = .int .i64 k ∧ Hid (decide (l.drop k = l2.drop k) = decide (l = l2)) ∧ Below w.heap.size w wr) (fun i _ => n - (intOf i).toNat)
    case atStart => exact ⟨0, Nat.zero_le _, rfl, hide rfl, Below.refl _ _⟩
    case round =>
      obtain ⟨k, hk, rfl, HT, hb⟩ := hrel
      have hzr := hb.size
      by_cases hlt : k < n
      · have hlt' : ((k : Int) < (n : Int)) := by omega
        obtain ⟨b, off, x, A3, n3, c3, rfl, hbB, hx, hc, hrx⟩ := (Hr.out.below (hb.mono hB)).at_ hlt
        obtain ⟨b2, off2, y, A4, n4, c4, rfl, hbB2, hy, hc2, hry⟩ := (Hr2.out.below (hb.mono hB)).at_ hlt
        have Hst : Hid ((decide (x = y) && decide (l.drop (k + 1) = l2.drop (k + 1))) = decide (l = l2)) := hide (by rw [← HT.out, drop_at hx, drop_at hy, cons_dec])
        have Hrx := hide hrx
        have Hry := hide hry
        clear hx hy HT hrx hry
        have e0 := cell_regrown hc
        have e1 := cell_regrown hc2
        have Hcall : Hid (∀ (dd : Nat) (os : Array Obj), Calls Try.prog 32 #[.slice A3 n3 c3, .slice A4 n4 c4] (grow (redrawn wr dd) os) fun e w' => e = .returned (.bool (decide (x = y))) ∧ Below (grow (redrawn wr dd) os).heap.size (grow (redrawn wr dd) os) w') :=
          hide (fun dd os => rints_any B A3 n3 c3 x A4 n4 c4 y _ (Nat.le_trans (by omega) (below_regrown wr dd os).size) (Hrx.out.below ((below_regrown wr dd os).mono (by omega))) (Hry.out.below ((below_regrown wr dd os).mono (by omega))))
        go_wp2_with fail
        clear hc hc2
        refine wp_region_quiet_below (by kernel_rfl) (by kernel_rfl) ?_
        repeat (go_big_quiet_step ((go_at_call 32; exact Calls.regrown_of (Hcall.out _ _))))
        refine wpQuiet_nil ?_
        intro w3 hw3
        obtain ⟨p, hp3⟩ := hw3
        have hb3 : Below w.heap.size w w3 := by rw [hp3]; exact hb.trans ((below_regrown wr p.d p.os).mono (by omega))
        clear hp3 e0 e1 Hcall
        cases hd : decide (x = y)
        · have Hf : Hid (decide (l = l2) = false) := hide (by rw [← Hst.out, hd, Bool.false_and])
          clear hd
          go_wp2_with fail
          go_ret
          exact ⟨ret_bool Hf.out.symm, hb3⟩
        · have Hon : Hid (decide (l.drop (k + 1) = l2.drop (k + 1)) = decide (l = l2)) := hide (by rw [← Hst.out, hd, Bool.true_and])
          clear hd
          go_wp2_with fail
          go_roundw
          case rel => exact ⟨k + 1, by omega, by go_num, Hon, hb3⟩
          case measure => simp [intOf]; omega
      · have hlt' : ¬ ((k : Int) < (n : Int)) := by omega
        have Hf : Hid (decide (l = l2) = true) := hide (by rw [← HT.out, List.drop_of_length_le (by rw [Hl.out]; omega), List.drop_of_length_le (by rw [Hl2.out]; omega)]; rfl)
        go_wp2_with fail
        go_ret
        exact ⟨ret_bool Hf.out.symm, hb⟩
  · have hl' : ((n : Int) != (n2 : Int)) = true := by simp; omega
    have Hf : Hid (decide (l = l2) = false) := hide (decide_eq_false (fun h => hl (by rw [← Hl.out, ← Hl2.out, h])))
    clear hl
    go_enter Try.func14, Try.ntmps14
    go_wp2_with fail
    go_ret
    exact ⟨ret_bool Hf.out.symm, Below.refl _ _⟩
set_option maxHeartbeats 1000000 in
theorem dnext_any (B : Nat) (A : Option Addr) (n c : Nat) (l : List (List Int)) (A2 : Option Addr) (n2 c2 : Nat) (l2 : List (List Int)) (w : World) (hB : B ≤ w.heap.size) (hr : RR w B ⟨A, n, c⟩ l) (hr2 : RR w B ⟨A2, n2, c2⟩ l2) :
    Calls Try.prog 31 #[.slice A n c, .slice A2 n2 c2, .func (.func 30) #[] #[]] w fun e w' => e = .returned (.bool (decide (l = l2))) ∧ Below w.heap.size w w' := by
  have hn : n ≤ 2 ^ 63 - 1 := Nat.le_trans hr.2.1 hr.2.2.1
  have hn2 : n2 ≤ 2 ^ 63 - 1 := Nat.le_trans hr2.2.1 hr2.2.2.1
  have Hl : Hid (l.length = n) := hide hr.1
  have Hl2 : Hid (l2.length = n2) := hide hr2.1
  have Hr := hide hr
  have Hr2 := hide hr2
  clear hr hr2
  by_cases hl : n = n2
  · subst hl
    have hl' : ((n : Int) != (n : Int)) = false := by simp
    go_enter Try.func31, Try.ntmps31
    go_wp2_with fail
    go_loopw [17] (fun i wr => ∃ k : Nat, k ≤ n ∧ i = .int .i64 k ∧ Hid (decide (l.drop k = l2.drop k) = decide (l = l2)) ∧ Below w.heap.size w wr) (fun i _ => n - (intOf i).toNat)
    case atStart => exact ⟨0, Nat.zero_le _, rfl, hide rfl, Below.refl _ _⟩
    case round =>
      obtain ⟨k, hk, rfl, HT, hb⟩ := hrel
      have hzr := hb.size
      by_cases hlt : k < n
      · have hlt' : ((k : Int) < (n : Int)) := by omega
        obtain ⟨b, off, x, A3, n3, c3, rfl, hbB, hx, hc, hrx⟩ := (Hr.out.below (hb.mono hB)).at_ hlt
        obtain ⟨b2, off2, y, A4, n4, c4, rfl, hbB2, hy, hc2, hry⟩ := (Hr2.out.below (hb.mono hB)).at_ hlt
        have Hst : Hid ((decide (x = y) && decide (l.drop (k + 1) = l2.drop (k + 1))) = decide (l = l2)) := hide (by rw [← HT.out, drop_at hx, drop_at hy, cons_dec])
        have Hrx := hide hrx
        have Hry := hide hry
        clear hx hy HT hrx hry
        go_wp2_with fail
        refine (dints_any B A3 n3 c3 x A4 n4 c4 y wr (by omega) Hrx.out Hry.out).mono ?_
        rintro e w3 ⟨rfl, hb3⟩
        have Hb3 := hide (hb.trans (hb3.mono (by omega)))
        clear hc hc2 hb3
        cases hd : decide (x = y)
        · have Hf : Hid (decide (l = l2) = false) := hide (by rw [← Hst.out, hd, Bool.false_and])
          clear hd
          go_wp2_with fail
          go_ret
          exact ⟨ret_bool Hf.out.symm, Hb3.out⟩
        · have Hon : Hid (decide (l.drop (k + 1) = l2.drop (k + 1)) = decide (l = l2)) := hide (by rw [← Hst.out, hd, Bool.true_and])
          clear hd
          go_wp2_with fail
          go_roundw
          case rel => exact ⟨k + 1, by omega, by go_num, Hon, Hb3.out⟩
          case measure => simp [intOf]; omega
      · have hlt' : ¬ ((k : Int) < (n : Int)) := by omega
        have Hf : Hid (decide (l = l2) = true) := hide (by rw [← HT.out, List.drop_of_length_le (by rw [Hl.out]; omega), List.drop_of_length_le (by rw [Hl2.out]; omega)]; rfl)
        go_wp2_with fail
        go_ret
        exact ⟨ret_bool Hf.out.symm, hb⟩
  · have hl' : ((n : Int) != (n2 : Int)) = true := by simp; omega
    have Hf : Hid (decide (l = l2) = false) := hide (decide_eq_false (fun h => hl (by rw [← Hl.out, ← Hl2.out, h])))
    clear hl
    go_enter Try.func31, Try.ntmps31
    go_wp2_with fail
    go_ret
    exact ⟨ret_bool Hf.out.symm, Below.refl _ _⟩
def sameG (a b : GT) : Bool := decide (a.own = b.own) && decide (a.nxt = b.nxt)
theorem two_box (w : World) (OA NA OA2 NA2 : Option Addr) (on oc nn nc on2 oc2 nn2 nc2 : Nat) : Box2 ((w.alloc (.cells #[.slice OA on oc, .slice NA nn nc] 25)).alloc (.cells #[.slice OA2 on2 oc2, .slice NA2 nn2 nc2] 25)) w.heap.size ⟨OA, on, oc⟩ ⟨NA, nn, nc⟩ ∧
    Box2 ((w.alloc (.cells #[.slice OA on oc, .slice NA nn nc] 25)).alloc (.cells #[.slice OA2 on2 oc2, .slice NA2 nn2 nc2] 25)) (w.heap.size + 1) ⟨OA2, on2, oc2⟩ ⟨NA2, nn2, nc2⟩ := by
  have h2 := box_new (w.alloc (.cells #[.slice OA on oc, .slice NA nn nc] 25)) OA2 NA2 on2 oc2 nn2 nc2 25
  have e : (w.alloc (.cells #[.slice OA on oc, .slice NA nn nc] 25)).heap.size = w.heap.size + 1 := by simp
  rw [e] at h2
  exact ⟨(box_new w OA NA on oc nn nc 25).below (B := w.heap.size + 1) ((Below.refl _ _).alloc (by simp) _) (by omega), h2⟩

set_option maxHeartbeats 1000000 in
theorem rsame_any (B : Nat) (OA NA : Option Addr) (on oc nn nc : Nat) (g : GT) (OA2 NA2 : Option Addr) (on2 oc2 nn2 nc2 : Nat) (g2 : GT) (w : World) (hB : B ≤ w.heap.size) (hg : RG w B ⟨OA, on, oc⟩ ⟨NA, nn, nc⟩ g) (hg2 : RG w B ⟨OA2, on2, oc2⟩ ⟨NA2, nn2, nc2⟩ g2) :
    Calls Try.prog 13 #[.agg #[.slice OA on oc, .slice NA nn nc], .agg #[.slice OA2 on2 oc2, .slice NA2 nn2 nc2]] w fun e w' => e = .returned (.bool (sameG g g2)) ∧ Below w.heap.size w w' := by
  have hbx : Below w.heap.size w ((w.alloc (.cells #[.slice OA on oc, .slice NA nn nc] 25)).alloc (.cells #[.slice OA2 on2 oc2, .slice NA2 nn2 nc2] 25)) := ((Below.refl _ _).alloc (Nat.le_refl _) _).alloc (by simp) _
  obtain ⟨bx1, bx2⟩ := two_box w OA NA OA2 NA2 on oc nn nc on2 oc2 nn2 nc2
  have hz0 : w.heap.size + 2 ≤ ((w.alloc (.cells #[.slice OA on oc, .slice NA nn nc] 25)).alloc (.cells #[.slice OA2 on2 oc2, .slice NA2 nn2 nc2] 25)).heap.size := by simp
  have Hg := hide (hg.below (hbx.mono hB))
  have Hg2 := hide (hg2.below (hbx.mono hB))
  have Hbx1 := hide bx1
  have Hbx2 := hide bx2
  have Hs : Hid (sameG g g2 = (decide (g.own = g2.own) && decide (g.nxt = g2.nxt))) := hide rfl
  clear hg hg2 bx1 bx2
  go_enter Try.func13, Try.ntmps13
  go_wp2_with fail
  generalize (w.alloc (.cells #[.slice OA on oc, .slice NA nn nc] 25)).alloc (.cells #[.slice OA2 on2 oc2, .slice NA2 nn2 nc2] 25) = w2 at *
  refine (rints_any B OA on oc g.own OA2 on2 oc2 g2.own w2 (by omega) Hg.out.own Hg2.out.own).mono ?_
  rintro e w3 ⟨rfl, hb3⟩
  have hz3 := hb3.size
  have hbw := hbx.trans (hb3.mono (by omega))
  obtain ⟨a0, a1⟩ := Hbx1.out.below hb3 (by omega)
  obtain ⟨b0, b1⟩ := Hbx2.out.below hb3 (by omega)
  simp only [SL.v] at a0 a1 b0 b1
  have Hn := hide (Hg.out.nxt.below (hb3.mono (by omega)))
  have Hn2 := hide (Hg2.out.nxt.below (hb3.mono (by omega)))
  clear hb3 Hg Hg2 Hbx1 Hbx2
  cases hd : decide (g.own = g2.own)
  · have Hf : Hid (sameG g g2 = false) := hide (by rw [Hs.out, hd, Bool.false_and])
    clear hd
    go_wp2_with fail
    go_ret
    exact ⟨ret_bool Hf.out.symm, hbw⟩
  · have Hf : Hid (sameG g g2 = decide (g.nxt = g2.nxt)) := hide (by rw [Hs.out, hd, Bool.true_and])
    clear hd
    go_wp2_with fail
    refine (rnext_any B NA nn nc g.nxt NA2 nn2 nc2 g2.nxt w3 (by omega) Hn.out Hn2.out).mono ?_
    rintro e w4 ⟨rfl, hb4⟩
    have hbw4 := hbw.trans (hb4.mono (by omega))
    go_wp2_with fail
    go_ret
    exact ⟨ret_bool Hf.out.symm, hbw4⟩

set_option maxHeartbeats 1000000 in
theorem dsame_any (B : Nat) (OA NA : Option Addr) (on oc nn nc : Nat) (g : GT) (OA2 NA2 : Option Addr) (on2 oc2 nn2 nc2 : Nat) (g2 : GT) (w : World) (hB : B ≤ w.heap.size) (hg : RG w B ⟨OA, on, oc⟩ ⟨NA, nn, nc⟩ g) (hg2 : RG w B ⟨OA2, on2, oc2⟩ ⟨NA2, nn2, nc2⟩ g2) :
    Calls Try.prog 12 #[.agg #[.slice OA on oc, .slice NA nn nc], .agg #[.slice OA2 on2 oc2, .slice NA2 nn2 nc2]] w fun e w' => e = .returned (.bool (sameG g g2)) ∧ Below w.heap.size w w' := by
  have hbx : Below w.heap.size w ((w.alloc (.cells #[.slice OA on oc, .slice NA nn nc] 25)).alloc (.cells #[.slice OA2 on2 oc2, .slice NA2 nn2 nc2] 25)) := ((Below.refl _ _).alloc (Nat.le_refl _) _).alloc (by simp) _
  obtain ⟨bx1, bx2⟩ := two_box w OA NA OA2 NA2 on oc nn nc on2 oc2 nn2 nc2
  have hz0 : w.heap.size + 2 ≤ ((w.alloc (.cells #[.slice OA on oc, .slice NA nn nc] 25)).alloc (.cells #[.slice OA2 on2 oc2, .slice NA2 nn2 nc2] 25)).heap.size := by simp
  have Hg := hide (hg.below (hbx.mono hB))
  have Hg2 := hide (hg2.below (hbx.mono hB))
  have Hbx1 := hide bx1
  have Hbx2 := hide bx2
  have Hs : Hid (sameG g g2 = (decide (g.own = g2.own) && decide (g.nxt = g2.nxt))) := hide rfl
  clear hg hg2 bx1 bx2
  go_enter Try.func12, Try.ntmps12
  go_wp2_with fail
  generalize (w.alloc (.cells #[.slice OA on oc, .slice NA nn nc] 25)).alloc (.cells #[.slice OA2 on2 oc2, .slice NA2 nn2 nc2] 25) = w2 at *
  refine (dints_any B OA on oc g.own OA2 on2 oc2 g2.own w2 (by omega) Hg.out.own Hg2.out.own).mono ?_
  rintro e w3 ⟨rfl, hb3⟩
  have hz3 := hb3.size
  have hbw := hbx.trans (hb3.mono (by omega))
  obtain ⟨a0, a1⟩ := Hbx1.out.below hb3 (by omega)
  obtain ⟨b0, b1⟩ := Hbx2.out.below hb3 (by omega)
  simp only [SL.v] at a0 a1 b0 b1
  have Hn := hide (Hg.out.nxt.below (hb3.mono (by omega)))
  have Hn2 := hide (Hg2.out.nxt.below (hb3.mono (by omega)))
  clear hb3 Hg Hg2 Hbx1 Hbx2
  cases hd : decide (g.own = g2.own)
  · have Hf : Hid (sameG g g2 = false) := hide (by rw [Hs.out, hd, Bool.false_and])
    clear hd
    go_wp2_with fail
    go_ret
    exact ⟨ret_bool Hf.out.symm, hbw⟩
  · have Hf : Hid (sameG g g2 = decide (g.nxt = g2.nxt)) := hide (by rw [Hs.out, hd, Bool.true_and])
    clear hd
    go_wp2_with fail
    refine (dnext_any B NA nn nc g.nxt NA2 nn2 nc2 g2.nxt w3 (by omega) Hn.out Hn2.out).mono ?_
    rintro e w4 ⟨rfl, hb4⟩
    have hbw4 := hbw.trans (hb4.mono (by omega))
    go_wp2_with fail
    go_ret
    exact ⟨ret_bool Hf.out.symm, hbw4⟩
end Go.Proofs.Ytdcdpknlloffjaa.Gr
