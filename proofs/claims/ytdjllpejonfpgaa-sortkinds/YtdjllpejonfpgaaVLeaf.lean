/- The walks of package dom's functions of one variable. -/
import Derived.Test.YtdjllpejonfpgaaProg
import Derived.Test.YtdjllpejonfpgaaVWords
import Derived.WalkKit
import Derived.WalkSpells
import Derived.WalkLawsBesides
namespace Go.Proofs.Ytdjllpejonfpgaa.Dom
open Go.RowKit
set_option linter.unusedSimpArgs false

def letterB (c : Int) : Bool := decide (97 ≤ c ∧ c ≤ 122)
def digitB (c : Int) : Bool := decide (48 ≤ c ∧ c ≤ 57)

set_option maxHeartbeats 400000 in
theorem letter_any (c : Int) (w : World) (b : Bool) (hb : letterB c = b) : Calls Try.prog 42 #[.int .u8 c] w fun e w' => e = .returned (.bool b) ∧ w = w' := by
  subst hb
  by_cases h1 : 97 ≤ c <;> by_cases h2 : c ≤ 122
  all_goals
    have hr : letterB c = decide (97 ≤ c ∧ c ≤ 122) := rfl
    simp only [h1, h2, and_true, true_and, and_false, false_and, decide_true, decide_false] at hr
    rw [hr]
    clear hr
    go_enter Try.func42, Try.ntmps42
    go_wp2
    go_ret
    exact ⟨rfl, rfl⟩

set_option maxHeartbeats 400000 in
theorem digit_any (c : Int) (w : World) (b : Bool) (hb : digitB c = b) : Calls Try.prog 43 #[.int .u8 c] w fun e w' => e = .returned (.bool b) ∧ w = w' := by
  subst hb
  by_cases h1 : 48 ≤ c <;> by_cases h2 : c ≤ 57
  all_goals
    have hr : digitB c = decide (48 ≤ c ∧ c ≤ 57) := rfl
    simp only [h1, h2, and_true, true_and, and_false, false_and, decide_true, decide_false] at hr
    rw [hr]
    clear hr
    go_enter Try.func43, Try.ntmps43
    go_wp2
    go_ret
    exact ⟨rfl, rfl⟩

set_option maxHeartbeats 400000 in
theorem range_any (lo hi : Int) (w : World) (b : Bool) (hb : rangeB lo hi = b) : Calls Try.prog 45 #[.int .i64 lo, .int .i64 hi] w fun e w' => e = .returned (.bool b) ∧ w = w' := by
  subst hb
  by_cases h1 : -1000 ≤ lo <;> by_cases h2 : lo ≤ hi <;> by_cases h3 : hi ≤ 1000
  all_goals
    have hr : rangeB lo hi = decide (-1000 ≤ lo ∧ lo ≤ hi ∧ hi ≤ 1000) := rfl
    simp only [h1, h2, h3, and_true, true_and, and_false, false_and, decide_true, decide_false] at hr
    rw [hr]
    clear hr
    go_enter Try.func45, Try.ntmps45
    go_wp2
    go_ret
    exact ⟨rfl, rfl⟩

end Go.Proofs.Ytdjllpejonfpgaa.Dom
