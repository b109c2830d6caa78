/- The walks of the reference's Kids, node, sound, fits, MayExpr, Nodes. -/
import Derived.Test.YtdjllpejonfpgaaECount
namespace Go.Proofs.Ytdjllpejonfpgaa.Ex
open Go.RowKit
set_option linter.unusedSimpArgs false
set_option linter.unusedVariables false

def kidsOf (op : Int) : Int := if 1 ≤ op ∧ op ≤ 4 then 0 else if op = 5 then 1 else if 6 ≤ op ∧ op ≤ 14 then 2 else if op = 15 then 3 else -1
set_option maxHeartbeats 400000 in
theorem rkids_any (op : Int) (w : World) : Calls Try.prog 50 #[.int .i64 op] w fun e w' => e = .returned (.int .i64 (kidsOf op)) ∧ w = w' := by
  have hk : kidsOf op = if 1 ≤ op ∧ op ≤ 4 then 0 else if op = 5 then 1 else if 6 ≤ op ∧ op ≤ 14 then 2 else if op = 15 then 3 else -1 := rfl
  by_cases h1 : 1 ≤ op <;> by_cases h2 : op ≤ 4 <;> by_cases h3 : op = 5 <;> by_cases h4 : 6 ≤ op <;> by_cases h5 : op ≤ 14 <;> by_cases h6 : op = 15
  all_goals first
    | (exfalso; omega)
    | (have h3b : (op == 5) = decide (op = 5) := by by_cases h : op = 5 <;> simp [h]
       have h6b : (op == 15) = decide (op = 15) := by by_cases h : op = 15 <;> simp [h]
       simp only [h1, h2, h3, h4, h5, h6, and_true, true_and, and_false, false_and, if_true, if_false, decide_true, decide_false] at hk h3b h6b
       first | rw [hk] | (subst h3; rw [hk]) | (subst h6; rw [hk])
       clear hk
       try clear h3
       try clear h6
       go_enter Try.func50, Try.ntmps50
       go_wp2_with fail
       go_ret
       exact ⟨rfl, rfl⟩)

def nodeB (op n : Int) (len : Nat) : Bool := decide (0 ≤ kidsOf op ∧ (len : Int) = kidsOf op) && (if op = 1 then decide (-1000 ≤ n ∧ n ≤ 1000) else if op = 2 then decide (n = 0 ∨ n = 1) else if op = 3 ∨ op = 4 then decide (0 ≤ n ∧ n < 6) else decide (n = 0))
def nodeN (op n : Int) : Bool := if op = 1 then decide (-1000 ≤ n ∧ n ≤ 1000) else if op = 2 then decide (n = 0 ∨ n = 1) else if op = 3 ∨ op = 4 then decide (0 ≤ n ∧ n < 6) else decide (n = 0)

set_option maxHeartbeats 1000000 in
theorem rnode_any (op n : Int) (A : Option Addr) (len cap : Nat) (w : World) (hl : len ≤ maxLen) : Calls Try.prog 41 #[.agg #[.int .i64 op, .int .i64 n, .slice A len cap]] w fun e w' => e = .returned (.bool (nodeB op n len)) ∧ Below w.heap.size w w' := by
  unfold maxLen at hl
  have hN : nodeB op n len = (decide (0 ≤ kidsOf op ∧ (len : Int) = kidsOf op) && nodeN op n) := rfl
  have hbx : Below w.heap.size w (w.alloc (.cells #[.int .i64 op, .int .i64 n, .slice A len cap] 25)) := (Below.refl _ _).alloc (Nat.le_refl _) _
  generalize hk : kidsOf op = kk at *
  have Hk := hide hk; clear hk
  by_cases k0 : kk < 0
  · have k0b : decide (kk < 0) = true := by simp [k0]
    have Hr : Hid (nodeB op n len = false) := hide (by rw [hN]; simp; omega)
    clear hN k0
    go_enter Try.func41, Try.ntmps41
    go_wp2_with fail
    go_quiet ((go_at_call 50; exact Calls.quiet_of_same ((rkids_any op _).mono (fun e w' h => ⟨by rw [h.1, Hk.out], h.2.symm⟩))))
    go_wp2_with fail
    go_ret
    exact ⟨ret_bool Hr.out.symm, below_drewN hbx _⟩
  · have k0b : decide (kk < 0) = false := by simp; omega
    by_cases k1 : (len : Int) = kk
    · have k1b : ((len : Int) != kk) = false := by simp [k1]
      have Hr : Hid (nodeB op n len = nodeN op n) := hide (by rw [hN, decide_eq_true ⟨by omega, k1⟩, Bool.true_and])
      clear hN k0 k1
      have hnn : nodeN op n = if op = 1 then decide (-1000 ≤ n ∧ n ≤ 1000) else if op = 2 then decide (n = 0 ∨ n = 1) else if op = 3 ∨ op = 4 then decide (0 ≤ n ∧ n < 6) else decide (n = 0) := rfl
      by_cases o1 : op = 1
      · have o1b : (op == 1) = true := by simp [o1]
        rw [if_pos o1] at hnn
        rw [Bool.decide_and] at hnn
        cases n1 : decide (-1000 ≤ n) <;> cases n2 : decide (n ≤ 1000)
        all_goals
          simp only [n1, n2, Bool.and_true, Bool.true_and, Bool.and_false, Bool.false_and] at hnn
          have Hr2 := hide (Hr.out.trans hnn)
          clear hnn o1
          go_enter Try.func41, Try.ntmps41
          go_wp2_with fail
          go_quiet ((go_at_call 50; exact Calls.quiet_of_same ((rkids_any op _).mono (fun e w' h => ⟨by rw [h.1, Hk.out], h.2.symm⟩))))
          go_wp2_with fail
          go_ret
          exact ⟨ret_bool Hr2.out.symm, below_drewN hbx _⟩
      · have o1b : (op == 1) = false := by simp [o1]
        rw [if_neg o1] at hnn
        by_cases o2 : op = 2
        · have o2b : (op == 2) = true := by simp [o2]
          rw [if_pos o2] at hnn
          by_cases n1 : n = 0
          · have n1b : (n == 0) = true := by simp [n1]
            have Hr2 : Hid (nodeB op n len = true) := hide (Hr.out.trans (hnn.trans (by simp [n1])))
            clear hnn o1 o2 n1
            go_enter Try.func41, Try.ntmps41
            go_wp2_with fail
            go_quiet ((go_at_call 50; exact Calls.quiet_of_same ((rkids_any op _).mono (fun e w' h => ⟨by rw [h.1, Hk.out], h.2.symm⟩))))
            go_wp2_with fail
            go_ret
            exact ⟨ret_bool Hr2.out.symm, below_drewN hbx _⟩
          · have n1b : (n == 0) = false := by simp [n1]
            by_cases n2 : n = 1
            · have n2b : (n == 1) = true := by simp [n2]
              have Hr2 : Hid (nodeB op n len = true) := hide (Hr.out.trans (hnn.trans (by simp [n2])))
              clear hnn o1 o2 n1 n2
              go_enter Try.func41, Try.ntmps41
              go_wp2_with fail
              go_quiet ((go_at_call 50; exact Calls.quiet_of_same ((rkids_any op _).mono (fun e w' h => ⟨by rw [h.1, Hk.out], h.2.symm⟩))))
              go_wp2_with fail
              go_ret
              exact ⟨ret_bool Hr2.out.symm, below_drewN hbx _⟩
            · have n2b : (n == 1) = false := by simp [n2]
              have Hr2 : Hid (nodeB op n len = false) := hide (Hr.out.trans (hnn.trans (by simp [n1, n2])))
              clear hnn o1 o2 n1 n2
              go_enter Try.func41, Try.ntmps41
              go_wp2_with fail
              go_quiet ((go_at_call 50; exact Calls.quiet_of_same ((rkids_any op _).mono (fun e w' h => ⟨by rw [h.1, Hk.out], h.2.symm⟩))))
              go_wp2_with fail
              go_ret
              exact ⟨ret_bool Hr2.out.symm, below_drewN hbx _⟩
        · have o2b : (op == 2) = false := by simp [o2]
          rw [if_neg o2] at hnn
          by_cases o3 : op = 3 ∨ op = 4
          · rw [if_pos o3] at hnn
            have o3b : (op == 3) = true ∨ ((op == 3) = false ∧ (op == 4) = true) := by
              by_cases h : op = 3
              · exact .inl (by simp [h])
              · exact .inr ⟨by simp [h], by rcases o3 with h' | h' <;> simp_all⟩
            rw [Bool.decide_and] at hnn
            cases n1 : decide (0 ≤ n) <;> cases n2 : decide (n < 6)
            all_goals
              simp only [n1, n2, Bool.and_true, Bool.true_and, Bool.and_false, Bool.false_and] at hnn
              have Hr2 := hide (Hr.out.trans hnn)
              clear hnn o1 o2 o3
              rcases o3b with o3b | ⟨o3b, o4b⟩
              all_goals
                go_enter Try.func41, Try.ntmps41
                go_wp2_with fail
                go_quiet ((go_at_call 50; exact Calls.quiet_of_same ((rkids_any op _).mono (fun e w' h => ⟨by rw [h.1, Hk.out], h.2.symm⟩))))
                go_wp2_with fail
                go_ret
                exact ⟨ret_bool Hr2.out.symm, below_drewN hbx _⟩
          · rw [if_neg o3] at hnn
            have o3b : (op == 3) = false := by simp; exact fun h => o3 (.inl h)
            have o4b : (op == 4) = false := by simp; exact fun h => o3 (.inr h)
            have Hr2 := hide (Hr.out.trans hnn)
            have hnb : (n == 0) = decide (n = 0) := by by_cases h : n = 0 <;> simp [h]
            rw [← hnb] at Hr2
            clear hnn o1 o2 o3 hnb
            go_enter Try.func41, Try.ntmps41
            go_wp2_with fail
            go_quiet ((go_at_call 50; exact Calls.quiet_of_same ((rkids_any op _).mono (fun e w' h => ⟨by rw [h.1, Hk.out], h.2.symm⟩))))
            go_wp2_with fail
            go_ret
            exact ⟨ret_bool Hr2.out.symm, below_drewN hbx _⟩
    · have k1b : ((len : Int) != kk) = true := by simp [k1]
      have Hr : Hid (nodeB op n len = false) := hide (by rw [hN, decide_eq_false (fun h => k1 h.2)]; rfl)
      clear hN k0 k1
      go_enter Try.func41, Try.ntmps41
      go_wp2_with fail
      go_quiet ((go_at_call 50; exact Calls.quiet_of_same ((rkids_any op _).mono (fun e w' h => ⟨by rw [h.1, Hk.out], h.2.symm⟩))))
      go_wp2_with fail
      go_ret
      exact ⟨ret_bool Hr.out.symm, below_drewN hbx _⟩
end Go.Proofs.Ytdjllpejonfpgaa.Ex
