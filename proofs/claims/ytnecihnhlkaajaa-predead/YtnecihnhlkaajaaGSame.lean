/- The walks of what compares rows: SameInts, slices.Equal, SameRow. -/
import Derived.Test.YtnecihnhlkaajaaGMay
namespace Go.Proofs.Ytnecihnhlkaajaa.Gr
open Go.RowKit
set_option linter.unusedSimpArgs false
set_option linter.unusedVariables false

theorem cons_dec {α : Type} [DecidableEq α] (x y : α) (a b : List α) : decide (x :: a = y :: b) = (decide (x = y) && decide (a = b)) := by
  by_cases h : x = y <;> by_cases h2 : a = b <;> simp [h, h2]

set_option maxHeartbeats 1000000 in
theorem rrow_any (B : Nat) (A : Option Addr) (n c : Nat) (l : List Bool) (A2 : Option Addr) (n2 c2 : Nat) (l2 : List Bool) (w : World) (hB : B ≤ w.heap.size) (hr : RB w B ⟨A, n, c⟩ l) (hr2 : RB w B ⟨A2, n2, c2⟩ l2) :
    Calls Try.prog 14 #[.slice A n c, .slice A2 n2 c2] w fun e w' => e = .returned (.bool (decide (l = l2))) ∧ Below w.heap.size w w' := by
  have hn : n ≤ 2 ^ 63 - 1 := Nat.le_trans hr.2.1 hr.2.2.1
  have hn2 : n2 ≤ 2 ^ 63 - 1 := Nat.le_trans hr2.2.1 hr2.2.2.1
  have Hl : Hid (l.length = n) := hide hr.1
  have Hl2 : Hid (l2.length = n2) := hide hr2.1
  have Hr := hide hr
  have Hr2 := hide hr2
  clear hr hr2
  by_cases hl : n = n2
  · subst hl
    have hl' : ((n : Int) != (n : Int)) = false := by simp
    go_enter Try.func14, Try.ntmps14
    go_wp2_with fail
    go_loopw [13] (fun i wr => ∃ k : Nat, k ≤ n ∧ i = .int .i64 k ∧ Hid (decide (l.drop k = l2.drop k) = decide (l = l2)) ∧ Below w.heap.size w wr) (fun i _ => n - (intOf i).toNat)
    case atStart => exact ⟨0, Nat.zero_le _, rfl, hide rfl, Below.refl _ _⟩
    case round =>
      obtain ⟨k, hk, rfl, HT, hb⟩ := hrel
      have hzr := hb.size
      by_cases hlt : k < n
      · have hlt' : ((k : Int) < (n : Int)) := by omega
        obtain ⟨b, off, x, rfl, hbB, hx, hc⟩ := (Hr.out.below (hb.mono hB)).at_ hlt
        obtain ⟨b2, off2, y, rfl, hbB2, hy, hc2⟩ := (Hr2.out.below (hb.mono hB)).at_ hlt
        have Hst : Hid ((decide (x = y) && decide (l.drop (k + 1) = l2.drop (k + 1))) = decide (l = l2)) := hide (by rw [← HT.out, drop_at hx, drop_at hy, cons_dec])
        clear hx hy HT
        cases hd : !(x == y)
        · have Hon : Hid (decide (l.drop (k + 1) = l2.drop (k + 1)) = decide (l = l2)) := hide (by rw [← Hst.out, decide_eq_true (show x = y by simpa using hd), Bool.true_and])
          go_wp2_with fail
          go_quiet (fail)
          have hbq : Below w.heap.size w (wr.drewN nq) := ⟨hb.os, hb.tape, hb.output, hb.size, hb.block⟩
          go_wp2_with fail
          go_roundw
          case rel => exact ⟨k + 1, by omega, by go_num, Hon, hbq⟩
          case measure => simp [intOf]; omega
        · have Hf : Hid (decide (l = l2) = false) := hide (by rw [← Hst.out, decide_eq_false (show ¬ x = y by simpa using hd), Bool.false_and])
          go_wp2_with fail
          go_quiet (fail)
          have hbq : Below w.heap.size w (wr.drewN nq) := ⟨hb.os, hb.tape, hb.output, hb.size, hb.block⟩
          go_wp2_with fail
          go_ret
          exact ⟨ret_bool Hf.out.symm, hbq⟩
      · have hlt' : ¬ ((k : Int) < (n : Int)) := by omega
        have Hf : Hid (decide (l = l2) = true) := hide (by rw [← HT.out, List.drop_of_length_le (by rw [Hl.out]; omega), List.drop_of_length_le (by rw [Hl2.out]; omega)]; rfl)
        go_wp2_with fail
        go_ret
        exact ⟨ret_bool Hf.out.symm, hb⟩
  · have hl' : ((n : Int) != (n2 : Int)) = true := by simp; omega
    have Hf : Hid (decide (l = l2) = false) := hide (decide_eq_false (fun h => hl (by rw [← Hl.out, ← Hl2.out, h])))
    clear hl
    go_enter Try.func14, Try.ntmps14
    go_wp2_with fail
    go_ret
    exact ⟨ret_bool Hf.out.symm, Below.refl _ _⟩
end Go.Proofs.Ytnecihnhlkaajaa.Gr
