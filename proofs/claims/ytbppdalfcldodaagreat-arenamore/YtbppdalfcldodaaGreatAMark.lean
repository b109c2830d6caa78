/- A map of marks at vertices (as in ATurns, without its walk). -/
import Derived.Test.YtbppdalfcldodaaGreatALaw
import Derived.Test.YtbppdalfcldodaaGreatAAwake
import Derived.Test.YtbppdalfcldodaaGreatGMd
import Derived.Test.YtbppdalfcldodaaGreatCInitsA
import Derived.Deep.Cut
import Derived.Deep.CutRange
set_option maxRecDepth 100000
namespace Go.Proofs.YtbppdalfcldodaaGreat
open Go.RowKit Ex Go.WideMaps Go.Maps
set_option linter.unusedSimpArgs false
set_option linter.unusedVariables false

theorem hv6_nonneg (m : MT) : 0 ≤ hv6 m := by
  unfold hv6
  split
  · omega
  · split <;> omega
/- a map of marks at vertices -/
def VMark (D : DataW Unit) (l : List Vx) : Prop := ∀ x : Vx, SmV x → D.atKey (keyL x) (.lit (.int .i64 0)) = .lit (.int .i64 (if x ∈ l then 1 else 0))
theorem VMark.start : VMark (.map []) [] := fun x _ => by simp [DataW.atKey]
theorem VMark.put {D : DataW Unit} {l : List Vx} {x : Vx} (h : VMark D l) (hD : IsMap D) (hx : SmV x) : VMark (D.put (keyL x) (.lit (.int .i64 1))) (l ++ [x]) := fun y hy => by
  by_cases e : y = x
  · subst e
    rw [atKey_put_same hD (key_is hx)]; simp
  · rw [atKey_put_other (fun hh => e (keyL_inj hy hx hh)), h y hy]; simp [e]
theorem mark_no {D : DataW Unit} {l : List Vx} {x : Vx} {c : Int} (h : VMark D l) (hx : SmV x) (hn : x ∉ l) (hat : D.atKey (keyL x) (.lit (.int .i64 0)) = .lit (.int .i64 c)) : c = 0 := by
  rw [h x hx, if_neg hn] at hat
  injection hat with hat; injection hat with _ hat; exact hat.symm
theorem hown_below {w w' : World} {b n : Nat} {D : DataW Unit} (h : w.ownsMap Tryz.prog 57 (plainElem Tryz.prog 3) b n D) (hb : Below w.heap.size w w') : w'.ownsMap Tryz.prog 57 (plainElem Tryz.prog 3) b n D := by
  have hlt := h.lt
  obtain ⟨es, clock, h1, r⟩ := h
  exact ⟨es, clock, (hb.block b hlt).trans h1, r⟩
theorem not_before {l : List Vx} (hd : l.Nodup) {k : Nat} {x : Vx} (h : l[k]? = some x) : x ∉ l.take k := fun hm => by
  obtain ⟨j, hj⟩ := List.mem_iff_getElem?.1 hm
  have hjk : j < k := by
    have := (List.getElem?_eq_some_iff.1 hj).1
    rw [List.length_take] at this; omega
  rw [List.getElem?_take_of_lt hjk] at hj
  have h1 := numI_at hd h
  have h2 := numI_at hd hj
  rw [h1] at h2; omega
end Go.Proofs.YtbppdalfcldodaaGreat
