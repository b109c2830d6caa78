/- What ArenaTurns and ArenaMoves say, as data. -/
import Derived.Test.YtbppdalfcldodaaGreatABuild
import Derived.Test.YtbppdalfcldodaaGreatGReachM
import Derived.Test.YtbppdalfcldodaaGreatCAwake
import Derived.Test.YtbppdalfcldodaaGreatGMayR
set_option maxRecDepth 100000
namespace Go.Proofs.YtbppdalfcldodaaGreat
open Go.RowKit Ex
set_option linter.unusedSimpArgs false
set_option linter.unusedVariables false

theorem hv6_tot {m : MT} (h : hv6 m = 0) : totN m ≤ 24 := by
  unfold hv6 at h
  split at h
  · omega
  · split at h
    · omega
    · unfold totN; omega
/- the whole game -/
structure Arena (m : MT) (at_ : List Vx) (nx : List (List Int)) : Prop where
  nd : at_.Nodup
  root : at_[0]? = some rootV
  ok : ∀ x ∈ at_, OkV (totN m) x
  len : nx.length = at_.length
  next : ∀ (j : Nat) x, at_[j]? = some x → (∀ y ∈ succV m x, y ∈ at_) ∧ nx[j]? = some (sortI ((succV m x).map (numI at_)))
  from_ : ∀ (i : Nat) y, at_[i]? = some y → 0 < i → ∃ (j : Nat) (x : Vx), j < i ∧ at_[j]? = some x ∧ y ∈ succV m x
section
variable {m : MT} {at_ : List Vx} {nx : List (List Int)}
/- an edge leads to a successor -/
/- the players take turns -/
/- each vertex is reached -/
end
end Go.Proofs.YtbppdalfcldodaaGreat
