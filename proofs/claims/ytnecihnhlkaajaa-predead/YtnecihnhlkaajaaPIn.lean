/- What package pre hands to row and to ContainsFunc: the closures of Not, And, Or and Force. -/
import Derived.Test.YtnecihnhlkaajaaGRows
import Derived.Laws.EntriesVeiled
namespace Go.Proofs.Ytnecihnhlkaajaa.Gr
open Go.RowKit
set_option linter.unusedSimpArgs false
set_option linter.unusedVariables false

theorem hasB_nat (l : List Bool) (k : Nat) : hasB l (k : Int) = l.getD k false := by simp [hasB]
theorem isIn_any (B : Nat) (A : Option Addr) (n c : Nat) (l : List Bool) (k : Nat) (w : World) (hr : RB w B ⟨A, n, c⟩ l) :
    Calls Try.prog 22 #[.slice A n c, .int .i64 (k : Int)] w fun e w' => e = .returned (.bool (l.getD k false)) ∧ w' = w := by
  have hn : n ≤ 2 ^ 63 - 1 := Nat.le_trans hr.2.1 hr.2.2.1
  have Hl := hide hr.len
  have Hr := hide hr
  clear hr
  generalize hv : l.getD k false = v
  have Hv := hide hv
  clear hv
  by_cases hlt : k < n
  · have hlt' : (k : Int) < (n : Int) := by omega
    obtain ⟨b, off, x, rfl, hb, hx, hc⟩ := Hr.out.at_ hlt
    have Hf : Hid (v = x) := hide (by rw [← Hv.out]; exact getD_at hx)
    clear hx
    have h0' : (0 : Int) ≤ (k : Int) := by omega
    go_enter Try.func22, Try.ntmps22
    go_wp2_with fail
    go_ret
    exact ⟨ret_bool Hf.out.symm, rfl⟩
  · have hlt' : ¬ (k : Int) < (n : Int) := by omega
    have Hf : Hid (v = false) := hide (by rw [← Hv.out]; exact getD_out (by rw [Hl.out]; exact Nat.le_of_not_lt hlt))
    go_enter Try.func22, Try.ntmps22
    go_wp2_with fail
    go_ret
    exact ⟨ret_bool Hf.out.symm, rfl⟩
section
variable {B cb cb2 : Nat} {A A2 : Option Addr} {n c n2 c2 : Nat} {l l2 : List Bool} {v : Nat} {X : World}
theorem not1_any (hc : X.cell? ⟨cb, 0, none⟩ = some (.slice A n c)) (hr : RB X B ⟨A, n, c⟩ l) :
    Calls Try.prog 21 #[.int .i64 (v : Int), .pointer (some ⟨cb, 0, none⟩)] X fun e w' => e = .returned (.bool (!(l.getD v false))) ∧ w' = X := by
  go_enter Try.func21, Try.ntmps21
  go_wp2_with fail
  refine (isIn_any B A n c l v X hr).mono ?_
  rintro e w1 ⟨rfl, rfl⟩
  go_wp2_with fail
  go_ret
  exact ⟨rfl, rfl⟩
theorem ins_any (hc : X.cell? ⟨cb, 0, none⟩ = some (.slice A n c)) (hr : RB X B ⟨A, n, c⟩ l) :
    Calls Try.prog 26 #[.int .i64 (v : Int), .pointer (some ⟨cb, 0, none⟩)] X fun e w' => e = .returned (.bool (l.getD v false)) ∧ w' = X := by
  go_enter Try.func26, Try.ntmps26
  go_wp2_with fail
  refine (isIn_any B A n c l v X hr).mono ?_
  rintro e w1 ⟨rfl, rfl⟩
  go_wp2_with fail
  go_ret
  exact ⟨rfl, rfl⟩
theorem outs_any (hc : X.cell? ⟨cb, 0, none⟩ = some (.slice A n c)) (hr : RB X B ⟨A, n, c⟩ l) :
    Calls Try.prog 27 #[.int .i64 (v : Int), .pointer (some ⟨cb, 0, none⟩)] X fun e w' => e = .returned (.bool (!(l.getD v false))) ∧ w' = X := by
  go_enter Try.func27, Try.ntmps27
  go_wp2_with fail
  refine (isIn_any B A n c l v X hr).mono ?_
  rintro e w1 ⟨rfl, rfl⟩
  go_wp2_with fail
  go_ret
  exact ⟨rfl, rfl⟩
theorem and1_any (hc : X.cell? ⟨cb, 0, none⟩ = some (.slice A n c)) (hr : RB X B ⟨A, n, c⟩ l) (hc2 : X.cell? ⟨cb2, 0, none⟩ = some (.slice A2 n2 c2)) (hr2 : RB X B ⟨A2, n2, c2⟩ l2) :
    Calls Try.prog 23 #[.int .i64 (v : Int), .pointer (some ⟨cb, 0, none⟩), .pointer (some ⟨cb2, 0, none⟩)] X fun e w' => e = .returned (.bool (l.getD v false && l2.getD v false)) ∧ w' = X := by
  go_enter Try.func23, Try.ntmps23
  go_wp2_with fail
  refine (isIn_any B A n c l v X hr).mono ?_
  rintro e w1 ⟨rfl, rfl⟩
  cases h1 : l.getD v false
  · go_wp2_with fail
    go_ret
    exact ⟨ret_bool (by rw [h1]; simp), rfl⟩
  · go_wp2_with fail
    refine (isIn_any B A2 n2 c2 l2 v _ hr2).mono ?_
    rintro e w1 ⟨rfl, rfl⟩
    go_wp2_with fail
    go_ret
    exact ⟨ret_bool (by rw [h1]; simp), rfl⟩
theorem or1_any (hc : X.cell? ⟨cb, 0, none⟩ = some (.slice A n c)) (hr : RB X B ⟨A, n, c⟩ l) (hc2 : X.cell? ⟨cb2, 0, none⟩ = some (.slice A2 n2 c2)) (hr2 : RB X B ⟨A2, n2, c2⟩ l2) :
    Calls Try.prog 24 #[.int .i64 (v : Int), .pointer (some ⟨cb, 0, none⟩), .pointer (some ⟨cb2, 0, none⟩)] X fun e w' => e = .returned (.bool (l.getD v false || l2.getD v false)) ∧ w' = X := by
  go_enter Try.func24, Try.ntmps24
  go_wp2_with fail
  refine (isIn_any B A n c l v X hr).mono ?_
  rintro e w1 ⟨rfl, rfl⟩
  cases h1 : l.getD v false
  · go_wp2_with fail
    refine (isIn_any B A2 n2 c2 l2 v _ hr2).mono ?_
    rintro e w1 ⟨rfl, rfl⟩
    go_wp2_with fail
    go_ret
    exact ⟨ret_bool (by rw [h1]; simp), rfl⟩
  · go_wp2_with fail
    go_ret
    exact ⟨ret_bool (by rw [h1]; simp), rfl⟩
end
end Go.Proofs.Ytnecihnhlkaajaa.Gr
