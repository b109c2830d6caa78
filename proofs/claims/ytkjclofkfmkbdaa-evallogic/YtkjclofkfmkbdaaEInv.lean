/- A region that draws its order and makes memory, by what holds of it whatever has come up. -/
import Derived.Test.YtkjclofkfmkbdaaMNat
import Derived.OrdersHeld
namespace Go.Proofs.Ytkjclofkfmkbdaa
open Go.RowKit Ex
set_option linter.unusedSimpArgs false
set_option linter.unusedVariables false

/- a frame in which the slots lo .. lo + n - 1 hold what v says -/
def over (a : Act) (lo n : Nat) (v : Nat → Value) : Act := ⟨a.tmps.mapIdx (fun i x => if lo ≤ i ∧ i < lo + n then v (i - lo) else x), a.defers⟩
section
variable {a : Act} {lo n : Nat} {v : Nat → Value}
theorem over_put {j : Nat} (x : Value) (hj : j < n) : (over a lo n v).put (some (lo + j)) x = over a lo n (fun k => if k = j then x else v k) := by
  have h : ∀ (s u : Array Value) (df : List Deferred), s = u → (⟨s, df⟩ : Act) = ⟨u, df⟩ := fun s u df e => by rw [e]
  unfold over
  show (⟨_, _⟩ : Act) = _
  refine h _ _ _ (Array.ext_getElem? fun i => ?_)
  rw [Array.getElem?_setIfInBounds, Array.getElem?_mapIdx, Array.getElem?_mapIdx]
  by_cases hi : i < a.tmps.size
  · by_cases h : lo + j = i
    · subst h; simp [hi]; omega
    · rw [if_neg h]
      simp [hi]
      by_cases h3 : lo ≤ i ∧ i < lo + n
      · rw [if_pos h3, if_pos h3, if_neg (by omega)]
      · rw [if_neg h3, if_neg h3]
  · simp [hi]; omega
theorem over_in {j : Nat} (hj : j < n) (hs : lo + n ≤ a.tmps.size) : (over a lo n v).eval (.tmp (lo + j)) = v j := by
  show (over a lo n v).tmps.getD (lo + j) undef = v j
  unfold over
  have h : lo + j < a.tmps.size := by omega
  simp [Array.getD, h]
  omega
theorem over_out {t : Nat} (h : ¬ (lo ≤ t ∧ t < lo + n)) : (over a lo n v).eval (.tmp t) = a.eval (.tmp t) := by
  show (over a lo n v).tmps.getD t undef = a.tmps.getD t undef
  unfold over
  by_cases hs : t < a.tmps.size
  · simp [Array.getD, hs, h]
  · simp [Array.getD, hs]
theorem over_self (a : Act) (lo n : Nat) : over a lo n (fun j => a.tmps.getD (lo + j) undef) = a := by
  obtain ⟨tm, df⟩ := a
  unfold over
  congr 1
  apply Array.ext
  · simp
  · intro i h1 h2
    simp
    intro h3 h4
    have : lo + (i - lo) = i := by omega
    simp [this, h2]
end
theorem ready_lt {md : Region.Mode} {ops : Array Oper} {listed : Array Bool} {i : Nat} (h : i ∈ Region.ready md ops listed) (hs : listed.size = ops.size) : i < listed.size ∧ listed[i]? = some false := by
  obtain ⟨h1, o, ho, _⟩ := mem_ready.1 h
  have hi : i < ops.size := (Array.getElem?_eq_some_iff.1 ho).1
  have hi2 : i < listed.size := by omega
  refine ⟨hi2, ?_⟩
  simp [Array.getD, hi2] at h1
  simp [hi2, h1]
theorem wpAny_inv {P : Program} {md : Region.Mode} {ops : Array Oper} {Q : Exit → Act → World → Prop} {I : Array Bool → Act → World → Prop}
    (hstep : ∀ listed a w i, listed.size = ops.size → I listed a w → i ∈ Region.ready md ops listed → wpOp P ops Q i (fun a' w' => I (listed.setIfInBounds i true) a' w') a w)
    (hend : ∀ listed a w, listed.size = ops.size → Region.ready md ops listed = [] → I listed a w → Q .normal a w) :
    ∀ fuel listed a w, listed.size = ops.size → listed.countP (· == false) ≤ fuel → I listed a w → wpAny P md ops Q fuel listed a w := by
  intro fuel
  induction fuel with
  | zero =>
    intro listed a w hs hc hI
    have h0 : Region.ready md ops listed = [] := by
      cases hr : Region.ready md ops listed with
      | nil => rfl
      | cons x xs =>
        obtain ⟨h1, h2⟩ := ready_lt (i := x) (by rw [hr]; simp) hs
        have h3 : 0 < listed.countP (· == false) := by
          rw [Array.countP_pos_iff]
          obtain ⟨h4, h5⟩ := Array.getElem?_eq_some_iff.1 h2
          exact ⟨_, Array.getElem_mem h4, by simp [h5]⟩
        omega
    exact ⟨h0, hend listed a w hs h0 hI⟩
  | succ fuel ih =>
    intro listed a w hs hc hI
    refine ⟨fun h0 => hend listed a w hs h0 hI, fun i hi => wpOp_mono (fun a' w' h' => ih _ a' w' (by simpa using hs) ?_ h') (hstep listed a w i hs hI hi)⟩
    obtain ⟨h1, h2⟩ := ready_lt hi hs
    obtain ⟨h4, h5⟩ := Array.getElem?_eq_some_iff.1 h2
    have := Array.countP_set (p := (· == false)) (xs := listed) (i := i) (a := true) h4
    rw [h5] at this
    have e : listed.setIfInBounds i true = listed.set i true h4 := by simp [Array.setIfInBounds, h4]
    rw [e, this]
    have h6 : 0 < listed.countP (· == false) := by
      rw [Array.countP_pos_iff]
      exact ⟨_, Array.getElem_mem h4, by simp [h5]⟩
    rw [if_pos (by rfl), if_neg (by simp)]
    omega
theorem ready_all {md : Region.Mode} {ops : Array Oper} {listed : Array Bool} (hac : ∀ (j : Nat) (o : Oper), ops[j]? = some o → ∀ e ∈ o.after, e.on < j) (hs : listed.size = ops.size) (h0 : Region.ready md ops listed = []) : ∀ j, j < ops.size → listed.getD j false = true := by
  intro j
  induction j using Nat.strongRecOn with
  | _ j ih =>
    intro hj
    have hj2 : j < listed.size := by omega
    cases hl : listed[j] with
    | true => simp [Array.getD, hj2, hl]
    | false =>
      exfalso
      have : j ∈ Region.ready md ops listed := mem_ready.2 ⟨by simp [Array.getD, hj2, hl], ops[j], Array.getElem?_eq_getElem hj, fun e he _ => ih e.on (hac j _ (Array.getElem?_eq_getElem hj) e he) (by have := hac j _ (Array.getElem?_eq_getElem hj) e he; omega)⟩
      rw [h0] at this
      simp at this
theorem region_inv {P : Program} {id : Nat} {ops : Array Oper} {Q : Exit → Act → World → Prop} {a0 : Act} {W : World} (lo : Nat) (PJ : Nat → Value → World → Prop)
    (hm : P.follows .mixedOrders = true) (hsz : lo + ops.size ≤ a0.tmps.size)
    (hdst : ∀ j o, ops[j]? = some o → o.dst = some (lo + j) ∧ o.guard = none)
    (hac : ∀ (j : Nat) (o : Oper), ops[j]? = some o → ∀ e ∈ o.after, e.on < j)
    (hmono : ∀ j x w w', PJ j x w → Below w.heap.size w w' → PJ j x w')
    (hop : ∀ j o v w, ops[j]? = some o → Hid (Below W.heap.size W w) → (∀ e ∈ o.after, Region.binds .any e = true → PJ e.on (v e.on) w) →
      Oper.wp P o (over a0 lo ops.size v) w (fun a' w' => ∃ x, a' = (over a0 lo ops.size v).put o.dst x ∧ PJ j x w' ∧ Below w.heap.size w w') Q)
    (hend : ∀ v w, (∀ j, j < ops.size → PJ j (v j) w) → Hid (Below W.heap.size W w) → Q .normal (over a0 lo ops.size v) w) :
    (Code.region id ops true).wp P Q a0 W := by
  refine wp_region_any hm (wpAny_inv (I := fun listed a w => Hid (Below W.heap.size W w) ∧ ∃ v, a = over a0 lo ops.size v ∧ ∀ j, j < ops.size → listed.getD j false = true → PJ j (v j) w) ?_ ?_ _ _ _ _ (by simp) (by rw [Array.countP_replicate]; simp) ?_)
  · rintro listed a w i hs ⟨hb, v, rfl, hv⟩ hi
    obtain ⟨h1, o, ho, hd⟩ := mem_ready.1 hi
    have hio : i < ops.size := (Array.getElem?_eq_some_iff.1 ho).1
    obtain ⟨hdo, hgo⟩ := hdst i o ho
    have hw : Region.wanted o (yielded ops (over a0 lo ops.size v).tmps) = true := by simp [Region.wanted, hgo]
    unfold wpOp
    rw [ho]
    simp only [hw, if_true]
    refine .inl (Oper.wp_mono ?_ (hop i o v w ho hb (fun e he hbi => hv e.on (by have := hac i o ho e he; omega) (hd e he hbi))))
    rintro a' w' ⟨x, rfl, hx, hb'⟩
    refine ⟨hide (hb.out.trans (hb'.mono hb.out.size)), fun k => if k = i then x else v k, by rw [hdo, over_put x hio], fun j hj hl => ?_⟩
    by_cases hji : j = i
    · subst hji; simp; exact hx
    · show PJ j (if j = i then x else v j) w'
      rw [if_neg hji]
      refine hmono j _ w w' (hv j hj ?_) hb'
      have hj2 : j < listed.size := by omega
      simp [Array.getD, hj2, Array.getElem_setIfInBounds] at hl ⊢
      rcases hl with h | h
      · exact absurd h.symm hji
      · exact h
  · rintro listed a w hs h0 ⟨hb, v, rfl, hv⟩
    exact hend v w (fun j hj => hv j hj (ready_all hac hs h0 j hj)) hb
  · refine ⟨hide ⟨rfl, rfl, rfl, Nat.le_refl _, fun _ _ => rfl⟩, fun j => a0.tmps.getD (lo + j) undef, (over_self a0 lo ops.size).symm, fun j hj hl => ?_⟩
    simp [Array.getD, hj] at hl
end Go.Proofs.Ytkjclofkfmkbdaa
