/- A region that draws its order, reads and lays strings, and ends with one call: whatever the order, the call comes last. -/
import Derived.Test.YtjpphjmehgflpaaGreatDoorHExpr
import Derived.OrdersHeld
namespace Go.Proofs.YtjpphjmehgflpaaGreatDoor
open Go.RowKit Ex
set_option linter.unusedSimpArgs false
set_option linter.unusedVariables false

/- a frame in which the slots lo .. lo + n - 1 hold what v says -/
def over (a : Act) (lo n : Nat) (v : Nat → Value) : Act := ⟨a.tmps.mapIdx (fun i x => if lo ≤ i ∧ i < lo + n then v (i - lo) else x), a.defers⟩
section
variable {a : Act} {lo n : Nat} {v : Nat → Value}
theorem over_put {j : Nat} (x : Value) (hj : j < n) : (over a lo n v).put (some (lo + j)) x = over a lo n (fun k => if k = j then x else v k) := by
  have h : ∀ (s u : Array Value) (df : List Deferred), s = u → (⟨s, df⟩ : Act) = ⟨u, df⟩ := fun s u df e => by rw [e]
  unfold over
  show (⟨_, _⟩ : Act) = _
  refine h _ _ _ (Array.ext_getElem? fun i => ?_)
  rw [Array.getElem?_setIfInBounds, Array.getElem?_mapIdx, Array.getElem?_mapIdx]
  by_cases hi : i < a.tmps.size
  · by_cases h : lo + j = i
    · subst h; simp [hi]; omega
    · rw [if_neg h]
      simp [hi]
      by_cases h3 : lo ≤ i ∧ i < lo + n
      · rw [if_pos h3, if_pos h3, if_neg (by omega)]
      · rw [if_neg h3, if_neg h3]
  · simp [hi]; omega
theorem over_in {j : Nat} (hj : j < n) (hs : lo + n ≤ a.tmps.size) : (over a lo n v).eval (.tmp (lo + j)) = v j := by
  show (over a lo n v).tmps.getD (lo + j) undef = v j
  unfold over
  have h : lo + j < a.tmps.size := by omega
  simp [Array.getD, h]
  omega
theorem over_out {t : Nat} (h : ¬ (lo ≤ t ∧ t < lo + n)) : (over a lo n v).eval (.tmp t) = a.eval (.tmp t) := by
  show (over a lo n v).tmps.getD t undef = a.tmps.getD t undef
  unfold over
  by_cases hs : t < a.tmps.size
  · simp [Array.getD, hs, h]
  · simp [Array.getD, hs]
theorem over_self (a : Act) (lo n : Nat) : over a lo n (fun j => a.tmps.getD (lo + j) undef) = a := by
  obtain ⟨tm, df⟩ := a
  unfold over
  congr 1
  apply Array.ext
  · simp
  · intro i h1 h2
    simp
    intro h3 h4
    have : lo + (i - lo) = i := by omega
    simp [this, h2]
end
theorem ready_lt {md : Region.Mode} {ops : Array Oper} {listed : Array Bool} {i : Nat} (h : i ∈ Region.ready md ops listed) (hs : listed.size = ops.size) : i < listed.size ∧ listed[i]? = some false := by
  obtain ⟨h1, o, ho, _⟩ := mem_ready.1 h
  have hi : i < ops.size := (Array.getElem?_eq_some_iff.1 ho).1
  have hi2 : i < listed.size := by omega
  refine ⟨hi2, ?_⟩
  simp [Array.getD, hi2] at h1
  simp [hi2, h1]
theorem wpAny_inv {P : Program} {md : Region.Mode} {ops : Array Oper} {Q : Exit → Act → World → Prop} {I : Array Bool → Act → World → Prop}
    (hstep : ∀ listed a w i, listed.size = ops.size → I listed a w → i ∈ Region.ready md ops listed → wpOp P ops Q i (fun a' w' => I (listed.setIfInBounds i true) a' w') a w)
    (hend : ∀ listed a w, listed.size = ops.size → Region.ready md ops listed = [] → I listed a w → Q .normal a w) :
    ∀ fuel listed a w, listed.size = ops.size → listed.countP (· == false) ≤ fuel → I listed a w → wpAny P md ops Q fuel listed a w := by
  intro fuel
  induction fuel with
  | zero =>
    intro listed a w hs hc hI
    have h0 : Region.ready md ops listed = [] := by
      cases hr : Region.ready md ops listed with
      | nil => rfl
      | cons x xs =>
        obtain ⟨h1, h2⟩ := ready_lt (i := x) (by rw [hr]; simp) hs
        have h3 : 0 < listed.countP (· == false) := by
          rw [Array.countP_pos_iff]
          obtain ⟨h4, h5⟩ := Array.getElem?_eq_some_iff.1 h2
          exact ⟨_, Array.getElem_mem h4, by simp [h5]⟩
        omega
    exact ⟨h0, hend listed a w hs h0 hI⟩
  | succ fuel ih =>
    intro listed a w hs hc hI
    refine ⟨fun h0 => hend listed a w hs h0 hI, fun i hi => wpOp_mono (fun a' w' h' => ih _ a' w' (by simpa using hs) ?_ h') (hstep listed a w i hs hI hi)⟩
    obtain ⟨h1, h2⟩ := ready_lt hi hs
    obtain ⟨h4, h5⟩ := Array.getElem?_eq_some_iff.1 h2
    have := Array.countP_set (p := (· == false)) (xs := listed) (i := i) (a := true) h4
    rw [h5] at this
    have e : listed.setIfInBounds i true = listed.set i true h4 := by simp [Array.setIfInBounds, h4]
    rw [e, this]
    have h6 : 0 < listed.countP (· == false) := by
      rw [Array.countP_pos_iff]
      exact ⟨_, Array.getElem_mem h4, by simp [h5]⟩
    rw [if_pos (by rfl), if_neg (by simp)]
    omega
theorem ready_all {md : Region.Mode} {ops : Array Oper} {listed : Array Bool} (hac : ∀ (j : Nat) (o : Oper), ops[j]? = some o → ∀ e ∈ o.after, e.on < j) (hs : listed.size = ops.size) (h0 : Region.ready md ops listed = []) : ∀ j, j < ops.size → listed.getD j false = true := by
  intro j
  induction j using Nat.strongRecOn with
  | _ j ih =>
    intro hj
    have hj2 : j < listed.size := by omega
    cases hl : listed[j] with
    | true => simp [Array.getD, hj2, hl]
    | false =>
      exfalso
      have : j ∈ Region.ready md ops listed := mem_ready.2 ⟨by simp [Array.getD, hj2, hl], ops[j], Array.getElem?_eq_getElem hj, fun e he _ => ih e.on (hac j _ (Array.getElem?_eq_getElem hj) e he) (by have := hac j _ (Array.getElem?_eq_getElem hj) e he; omega)⟩
      rw [h0] at this
      simp at this
/- each operation but the last is waited for by a later one -/
def lastOk (lo n : Nat) (ops : Array Oper) : Bool := decide (ops.size = n + 1) && ((List.range ops.size).all fun j => match ops[j]? with
  | some o => (o.dst == some (lo + j)) && o.guard.isNone && o.after.all (fun e => decide (e.on < j))
  | none => true) && ((List.range n).all fun i => (List.range (n + 1)).any fun j => decide (i < j) && (match ops[j]? with
  | some o => o.after.any (fun e => Region.binds .any e && e.on == i)
  | none => false))
theorem lastOk_spec {lo n : Nat} {ops : Array Oper} (h : lastOk lo n ops = true) : ops.size = n + 1 ∧ (∀ j o, ops[j]? = some o → o.dst = some (lo + j) ∧ o.guard = none) ∧ (∀ (j : Nat) (o : Oper), ops[j]? = some o → ∀ e ∈ o.after, e.on < j) ∧
    (∀ i, i < n → ∃ j o, i < j ∧ j ≤ n ∧ ops[j]? = some o ∧ ∃ e ∈ o.after, Region.binds .any e = true ∧ e.on = i) := by
  unfold lastOk at h
  rw [Bool.and_eq_true, Bool.and_eq_true, decide_eq_true_eq] at h
  obtain ⟨⟨h0, h1⟩, h2⟩ := h
  have H : ∀ j o, ops[j]? = some o → (o.dst == some (lo + j)) = true ∧ o.guard.isNone = true ∧ o.after.all (fun e => decide (e.on < j)) = true := fun j o ho => by
    have hj : j < ops.size := (Array.getElem?_eq_some_iff.1 ho).1
    rw [List.all_eq_true] at h1
    have := h1 j (by simpa using hj)
    rw [ho] at this
    simp only [Bool.and_eq_true] at this
    exact ⟨this.1.1, this.1.2, this.2⟩
  refine ⟨h0, fun j o ho => ⟨by simpa using (H j o ho).1, by simpa using (H j o ho).2.1⟩, fun j o ho e he => ?_, fun i hi => ?_⟩
  · have := (H j o ho).2.2
    rw [Array.all_eq_true'] at this
    simpa using this e he
  · rw [List.all_eq_true] at h2
    have := h2 i (by simpa using hi)
    rw [List.any_eq_true] at this
    obtain ⟨j, hj, hj2⟩ := this
    simp only [Bool.and_eq_true, decide_eq_true_eq] at hj2
    obtain ⟨h3, h4⟩ := hj2
    have hjn : j < n + 1 := by simpa using hj
    cases ho : ops[j]? with
    | none => rw [ho] at h4; cases h4
    | some o =>
      rw [ho] at h4
      obtain ⟨e, he, h5⟩ := Array.any_eq_true'.1 h4
      simp only [Bool.and_eq_true, beq_iff_eq] at h5
      exact ⟨j, o, h3, by omega, ho, e, he, h5.1, h5.2⟩
theorem region_last {P : Program} {id n : Nat} {ops : Array Oper} {Q : Exit → Act → World → Prop} {a0 : Act} {W : World} (lo : Nat) (PJ : Nat → Value → World → Prop)
    (hm : P.follows .mixedOrders = true) (hsz : lo + (n + 1) ≤ a0.tmps.size) (hok : lastOk lo n ops = true)
    (hmono : ∀ j x w w', PJ j x w → Below w.heap.size w w' → PJ j x w')
    (hop : ∀ j o v w, j < n → ops[j]? = some o → Hid (Below W.heap.size W w) → (∀ e ∈ o.after, Region.binds .any e = true → PJ e.on (v e.on) w) →
      Oper.wp P o (over a0 lo (n + 1) v) w (fun a' w' => ∃ x, a' = (over a0 lo (n + 1) v).put o.dst x ∧ PJ j x w' ∧ Below w.heap.size w w') Q)
    (hlast : ∀ o v w, ops[n]? = some o → (∀ j, j < n → PJ j (v j) w) → Hid (Below W.heap.size W w) → Oper.wp P o (over a0 lo (n + 1) v) w (fun a' w' => Q .normal a' w') Q) :
    (Code.region id ops true).wp P Q a0 W := by
  obtain ⟨hn, hdst, hac, hsink⟩ := lastOk_spec hok
  have hset : ∀ {listed : Array Bool} {i : Nat}, listed.size = ops.size → i < ops.size → (∀ k, k ≠ i → (listed.setIfInBounds i true).getD k false = listed.getD k false) ∧ (listed.setIfInBounds i true).getD i false = true := fun {listed i} hs hi => by
    have hi2 : i < listed.size := by omega
    refine ⟨fun k hk => ?_, by simp [Array.getD, hi2]⟩
    have hk' : ¬ i = k := fun e => hk e.symm
    by_cases hks : k < listed.size
    · simp [Array.getD, hks, Array.getElem_setIfInBounds, hk']
    · simp [Array.getD, hks]
  refine wp_region_any hm (wpAny_inv (I := fun listed a w => (∀ j o, ops[j]? = some o → listed.getD j false = true → ∀ e ∈ o.after, Region.binds .any e = true → listed.getD e.on false = true) ∧
    ((listed.getD n false = true ∧ Q .normal a w) ∨ (listed.getD n false = false ∧ Hid (Below W.heap.size W w) ∧ ∃ v, a = over a0 lo (n + 1) v ∧ ∀ j, j < n → listed.getD j false = true → PJ j (v j) w))) ?_ ?_ _ _ _ _ (by simp) (by rw [Array.countP_replicate]; simp) ?_)
  · rintro listed a w i hs ⟨hcl, hI⟩ hi
    obtain ⟨h1, o, ho, hd⟩ := mem_ready.1 hi
    have hio : i < ops.size := (Array.getElem?_eq_some_iff.1 ho).1
    obtain ⟨hdo, hgo⟩ := hdst i o ho
    have hil : listed.getD i false = false := by
      have hi2 : i < listed.size := by omega
      simp [Array.getD, hi2] at h1 ⊢; exact h1
    obtain ⟨hse, hsi⟩ := hset hs hio
    have hcl2 : ∀ j o2, ops[j]? = some o2 → (listed.setIfInBounds i true).getD j false = true → ∀ e ∈ o2.after, Region.binds .any e = true → (listed.setIfInBounds i true).getD e.on false = true := fun j o2 ho2 hl e he hb => by
      by_cases hei : e.on = i
      · rw [hei]; exact hsi
      · rw [hse _ hei]
        by_cases hji : j = i
        · subst hji
          have : o2 = o := Option.some.inj (ho2.symm.trans ho)
          subst this
          exact hd e he hb
        · rw [hse _ hji] at hl
          exact hcl j o2 ho2 hl e he hb
    -- all are listed if the last one is, or is ready
    have hall : (listed.getD n false = true ∨ i = n) → ∀ (d k : Nat), n - k = d → k < n → listed.getD k false = true := fun hN d => by
      induction d using Nat.strongRecOn with
      | _ d ih =>
        intro k hkd hk
        obtain ⟨j, oj, hkj, hjn, hoj, e, he, hb, hon⟩ := hsink k hk
        by_cases hj : j = n
        · subst hj
          rcases hN with hN | hN
          · rw [← hon]; exact hcl _ oj hoj hN e he hb
          · subst hN
            have : oj = o := Option.some.inj (hoj.symm.trans ho)
            subst this
            rw [← hon]; exact hd e he hb
        · have := ih (n - j) (by omega) j rfl (by omega)
          rw [← hon]; exact hcl j oj hoj this e he hb
    have hw : ∀ t, Region.wanted o (yielded ops t) = true := fun t => by simp [Region.wanted, hgo]
    unfold wpOp
    rw [ho]
    simp only [hw, if_true]
    rcases hI with ⟨hN, _⟩ | ⟨hN, hb, v, rfl, hv⟩
    · exfalso
      by_cases hin : i = n
      · rw [hin, hN] at hil; cases hil
      · rw [hall (.inl hN) _ i rfl (by omega)] at hil; cases hil
    · by_cases hin : i = n
      · subst hin
        refine .inl (Oper.wp_mono ?_ (hlast o v w ho (fun j hj => hv j hj (hall (.inr rfl) _ j rfl hj)) hb))
        intro a' w' hQ
        exact ⟨hcl2, .inl ⟨hsi, hQ⟩⟩
      · refine .inl (Oper.wp_mono ?_ (hop i o v w (by omega) ho hb (fun e he hbi => hv e.on (by have := hac i o ho e he; omega) (hd e he hbi))))
        rintro a' w' ⟨x, rfl, hx, hb'⟩
        refine ⟨hcl2, .inr ⟨by rw [hse n (fun e => hin e.symm)]; exact hN, hide (hb.out.trans (hb'.mono hb.out.size)), fun k => if k = i then x else v k, by rw [hdo, over_put x (by omega)], fun j hj hl => ?_⟩⟩
        by_cases hji : j = i
        · subst hji; simp; exact hx
        · show PJ j (if j = i then x else v j) w'
          rw [if_neg hji]
          rw [hse j hji] at hl
          exact hmono j _ w w' (hv j hj hl) hb'
  · rintro listed a w hs h0 ⟨_, hI⟩
    rcases hI with ⟨_, hQ⟩ | ⟨hN, _⟩
    · exact hQ
    · rw [ready_all hac hs h0 n (by omega)] at hN; cases hN
  · have hf : ∀ j, (Array.replicate ops.size false).getD j false = false := fun j => by
      by_cases h : j < ops.size
      · simp [Array.getD, h]
      · simp [Array.getD, h]
    refine ⟨fun j o ho hl => ?_, .inr ⟨hf n, hide ⟨rfl, rfl, rfl, Nat.le_refl _, fun _ _ => rfl⟩, fun j => a0.tmps.getD (lo + j) undef, (over_self a0 lo (n + 1)).symm, fun j hj hl => ?_⟩⟩
    · rw [hf j] at hl; cases hl
    · rw [hf j] at hl; cases hl
/- what a slot holds -/
inductive Kd where
  | is (v : Value)
  | row (ss : List ByteArray)
def RowP (w : World) (x : Value) (ss : List ByteArray) : Prop := ∃ g, x = .slice (some ⟨g, 0, none⟩) ss.length ss.length ∧ w.heap[g]? = some (.cells (strR ss) 9 (0, 0))
def PJ (ks : List Kd) (j : Nat) (x : Value) (w : World) : Prop := match ks[j]? with
  | some (.is v) => x = v
  | some (.row ss) => RowP w x ss
  | none => True
theorem pj_mono (ks : List Kd) : ∀ j x w w', PJ ks j x w → Below w.heap.size w w' → PJ ks j x w' := by
  intro j x w w' h hb
  unfold PJ at h ⊢
  cases hk : ks[j]? with
  | none => trivial
  | some k =>
    rw [hk] at h
    cases k with
    | is v => exact h
    | row ss =>
      obtain ⟨g, e, hr⟩ := h
      exact ⟨g, e, (hb.block g (Array.getElem?_eq_some_iff.1 hr).1).trans hr⟩
theorem abs_act {P : Program} {c : Code} {Q : Exit → Act → World → Prop} {a : Act} {w : World} (h : ∀ a0, a0 = a → c.wp P Q a0 w) : c.wp P Q a w := h a rfl
theorem wp_val {P : Program} {o : Oper} {a : Act} {w w' : World} {v : Value} {K : Act → World → Prop} {Q : Exit → Act → World → Prop} (h : (execOp a.eval o).run P w = .ok (.value v) w') (hK : K (a.put o.dst v) w') : Oper.wp P o a w K Q := by
  unfold Oper.wp
  rw [h]
  exact hK
def putsV (a : Act) (lo : Nat) (v : Nat → Value) : Nat → Act
  | 0 => a
  | n + 1 => (putsV a lo v n).put (some (lo + n)) (v n)
theorem over_succ (a : Act) (lo n : Nat) (v : Nat → Value) : over a lo (n + 1) v = (over a lo n v).put (some (lo + n)) (v n) := by
  have h : ∀ (s u : Array Value) (df : List Deferred), s = u → (⟨s, df⟩ : Act) = ⟨u, df⟩ := fun s u df e => by rw [e]
  unfold over
  show _ = (⟨_, _⟩ : Act)
  refine h _ _ _ (Array.ext_getElem? fun i => ?_)
  rw [Array.getElem?_setIfInBounds, Array.getElem?_mapIdx, Array.getElem?_mapIdx]
  by_cases hi : i < a.tmps.size
  · by_cases h : lo + n = i
    · subst h; simp [hi]
    · rw [if_neg h]
      simp [hi]
      by_cases h3 : lo ≤ i ∧ i < lo + n
      · rw [if_pos h3, if_pos (by omega)]
      · rw [if_neg h3, if_neg (by omega)]
  · simp [hi]; omega
theorem over_zero (a : Act) (lo : Nat) (v : Nat → Value) : over a lo 0 v = a := by
  have h : ∀ (s u : Array Value) (df : List Deferred), s = u → (⟨s, df⟩ : Act) = ⟨u, df⟩ := fun s u df e => by rw [e]
  obtain ⟨tm, df⟩ := a
  unfold over
  refine h _ _ _ (Array.ext_getElem? fun i => ?_)
  rw [Array.getElem?_mapIdx]
  by_cases hi : i < tm.size
  · simp [hi]; omega
  · simp [hi]
theorem over_puts (a : Act) (lo : Nat) (v : Nat → Value) : ∀ n, over a lo n v = putsV a lo v n
  | 0 => over_zero a lo v
  | n + 1 => by rw [over_succ, over_puts a lo v n, putsV]
/- steps -/
set_option maxRecDepth 100000
set_option maxHeartbeats 2000000
section
variable {a : Act} {w : World} {K : Act → World → Prop} {Q : Exit → Act → World → Prop} {d ty : Nat} {pos : String} {af : Array Edge}
theorem st_move {t : Nat} {x : Value} (he : a.eval (.tmp t) = x) (hK : K (a.put (some d) x) w) : Oper.wp Tryz.prog ⟨some d, .move (.tmp t), ty, pos, af, none⟩ a w K Q := by
  refine wp_val ?_ hK
  simp only [execOp, he]
  go_simp
theorem st_nil {t : Nat} {p : Addr} (he : a.eval (.tmp t) = .pointer (some p)) (hK : K (a.put (some d) (.pointer (some p))) w) : Oper.wp Tryz.prog ⟨some d, .nilCheck (.tmp t), ty, pos, af, none⟩ a w K Q := by
  refine wp_val ?_ hK
  simp only [execOp, he]
  go_simp
theorem st_f58 {t b : Nat} (he : a.eval (.tmp t) = .pointer (some ⟨b, 0, none⟩)) (hK : K (a.put (some d) (.pointer (some ⟨b, 0, none⟩))) w) : Oper.wp Tryz.prog ⟨some d, .fieldAddr 55 (.tmp t) 0, ty, pos, af, none⟩ a w K Q := by
  refine wp_val ?_ hK
  simp only [execOp, he]
  go_simp
theorem st_f25 {t b : Nat} (he : a.eval (.tmp t) = .pointer (some ⟨b, 0, none⟩)) (hK : K (a.put (some d) (.pointer (some ⟨b, 1, none⟩))) w) : Oper.wp Tryz.prog ⟨some d, .fieldAddr 25 (.tmp t) 1, ty, pos, af, none⟩ a w K Q := by
  refine wp_val ?_ hK
  simp only [execOp, he]
  go_simp
theorem st_f48 {t b : Nat} (he : a.eval (.tmp t) = .pointer (some ⟨b, 0, none⟩)) (hK : K (a.put (some d) (.pointer (some ⟨b, 0, none⟩))) w) : Oper.wp Tryz.prog ⟨some d, .fieldAddr 42 (.tmp t) 0, ty, pos, af, none⟩ a w K Q := by
  refine wp_val ?_ hK
  simp only [execOp, he]
  go_simp
theorem st_f51 {t b o : Nat} (he : a.eval (.tmp t) = .pointer (some ⟨b, o, none⟩)) (hK : K (a.put (some d) (.pointer (some ⟨b, o, none⟩))) w) : Oper.wp Tryz.prog ⟨some d, .fieldAddr 45 (.tmp t) 0, ty, pos, af, none⟩ a w K Q := by
  refine wp_val ?_ hK
  simp only [execOp, he]
  go_simp
theorem st_f51k {t b : Nat} (k : Nat) (hk : k = 1 ∨ k = 3 ∨ k = 4) (he : a.eval (.tmp t) = .pointer (some ⟨b, 0, none⟩)) (hK : K (a.put (some d) (.pointer (some ⟨b, k, none⟩))) w) : Oper.wp Tryz.prog ⟨some d, .fieldAddr 45 (.tmp t) k, ty, pos, af, none⟩ a w K Q := by
  refine wp_val ?_ hK
  rcases hk with rfl | rfl | rfl
  all_goals (simp only [execOp, he]; go_simp)
theorem st_l22 {t b o : Nat} {A : Option Addr} {n c : Nat} (he : a.eval (.tmp t) = .pointer (some ⟨b, o, none⟩)) (hc : w.cell? ⟨b, o, none⟩ = some (.slice A n c)) (hK : K (a.put (some d) (.slice A n c)) w) : Oper.wp Tryz.prog ⟨some d, .load 22 (.tmp t), ty, pos, af, none⟩ a w K Q := by
  refine wp_val ?_ hK
  simp only [execOp, he]
  go_simp
theorem st_l3 {t b o : Nat} {n : Int} (he : a.eval (.tmp t) = .pointer (some ⟨b, o, none⟩)) (hc : w.cell? ⟨b, o, none⟩ = some (.int .i64 n)) (hK : K (a.put (some d) (.int .i64 n)) w) : Oper.wp Tryz.prog ⟨some d, .load 3 (.tmp t), ty, pos, af, none⟩ a w K Q := by
  refine wp_val ?_ hK
  simp only [execOp, he]
  go_simp
theorem st_l4 {t b o : Nat} {q : Bool} (he : a.eval (.tmp t) = .pointer (some ⟨b, o, none⟩)) (hc : w.cell? ⟨b, o, none⟩ = some (.bool q)) (hK : K (a.put (some d) (.bool q)) w) : Oper.wp Tryz.prog ⟨some d, .load 4 (.tmp t), ty, pos, af, none⟩ a w K Q := by
  refine wp_val ?_ hK
  simp only [execOp, he]
  go_simp
theorem st_l9 {t b o : Nat} {x : ByteArray} (he : a.eval (.tmp t) = .pointer (some ⟨b, o, none⟩)) (hc : w.cell? ⟨b, o, none⟩ = some (.string x)) (hK : K (a.put (some d) (.string x)) w) : Oper.wp Tryz.prog ⟨some d, .load 9 (.tmp t), ty, pos, af, none⟩ a w K Q := by
  refine wp_val ?_ hK
  simp only [execOp, he]
  go_simp
theorem st_idx {t u b o n c k : Nat} (he : a.eval (.tmp t) = .slice (some ⟨b, o, none⟩) n c) (hu : a.eval (.tmp u) = .int .i64 (k : Int)) (hk : k < n) (hK : K (a.put (some d) (.pointer (some ⟨b, o + k * 5, none⟩))) w) : Oper.wp Tryz.prog ⟨some d, .indexAddr 22 (.tmp t) (.tmp u), ty, pos, af, none⟩ a w K Q := by
  have hkl : (k : Int) < (n : Int) := by omega
  refine wp_val ?_ hK
  simp only [execOp, he, hu]
  go_simp
theorem st_b1 {t : Nat} {x : ByteArray} (he : a.eval (.tmp t) = .string x) (hK : K (a.put (some d) (.slice (some ⟨w.heap.size, 0, none⟩) 1 1)) (w.alloc (.cells #[.string x] 9))) : Oper.wp Tryz.prog ⟨some d, .buildSlice 91 1 #[(0, .tmp t)], ty, pos, af, none⟩ a w K Q := by
  have g0 : a.tmps[t]?.getD undef = .string x := by simpa [Act.eval] using he
  refine wp_val ?_ hK
  go_simp
theorem st_b2 {t : Nat} {x y : ByteArray} (he : a.eval (.tmp t) = .string x) (hK : K (a.put (some d) (.slice (some ⟨w.heap.size, 0, none⟩) 2 2)) (w.alloc (.cells #[.string x, .string y] 9))) : Oper.wp Tryz.prog ⟨some d, .buildSlice 91 2 #[(0, .tmp t), (1, .const (.string y))], ty, pos, af, none⟩ a w K Q := by
  have g0 : a.tmps[t]?.getD undef = .string x := by simpa [Act.eval] using he
  refine wp_val ?_ hK
  go_simp
theorem st_b3 {t u : Nat} {x y z : ByteArray} (he : a.eval (.tmp t) = .string x) (hu : a.eval (.tmp u) = .string z) (hK : K (a.put (some d) (.slice (some ⟨w.heap.size, 0, none⟩) 3 3)) (w.alloc (.cells #[.string x, .string y, .string z] 9))) : Oper.wp Tryz.prog ⟨some d, .buildSlice 91 3 #[(0, .tmp t), (1, .const (.string y)), (2, .tmp u)], ty, pos, af, none⟩ a w K Q := by
  have g0 : a.tmps[t]?.getD undef = .string x := by simpa [Act.eval] using he
  have g1 : a.tmps[u]?.getD undef = .string z := by simpa [Act.eval] using hu
  refine wp_val ?_ hK
  go_simp
theorem st_b4 {t u : Nat} {x y z q : ByteArray} (he : a.eval (.tmp t) = .string x) (hu : a.eval (.tmp u) = .string z) (hK : K (a.put (some d) (.slice (some ⟨w.heap.size, 0, none⟩) 4 4)) (w.alloc (.cells #[.string x, .string y, .string z, .string q] 9))) : Oper.wp Tryz.prog ⟨some d, .buildSlice 91 4 #[(0, .tmp t), (1, .const (.string y)), (2, .tmp u), (3, .const (.string q))], ty, pos, af, none⟩ a w K Q := by
  have g0 : a.tmps[t]?.getD undef = .string x := by simpa [Act.eval] using he
  have g1 : a.tmps[u]?.getD undef = .string z := by simpa [Act.eval] using hu
  refine wp_val ?_ hK
  go_simp
theorem st_put {t u B b g : Nat} {s : SL} {bs : List UInt8} {ss : List ByteArray} {n : Nat} (he : a.eval (.tmp t) = .pointer (some ⟨b, 0, none⟩)) (hu : a.eval (.tmp u) = .slice (some ⟨g, 0, none⟩) n n)
    (hn : n = ss.length) (hsm : n ≤ 8) (hg : w.heap[g]? = some (.cells (strR ss) 9 (0, 0))) (hgb : g ≠ b) (hP : Pg B b s bs w) (hlen : bs.length + (catB ss).length ≤ 140737488355328) (hB : B ≤ w.heap.size)
    (hK : ∀ w', Pg B b s (bs ++ catB ss) w' → KP B b w w' → K (a.put (some d) (.tuple #[])) w') : Oper.wp Tryz.prog ⟨some d, .call { callee := .value (.func 34), args := #[.tmp t, .tmp u], argTypes := #[69, 91] }, ty, pos, af, none⟩ a w K Q := by
  subst hn
  have g0 : a.tmps[t]?.getD undef = .pointer (some ⟨b, 0, none⟩) := by simpa [Act.eval] using he
  have g1 : a.tmps[u]?.getD undef = .slice (some ⟨g, 0, none⟩) ss.length ss.length := by simpa [Act.eval] using hu
  unfold Oper.wp
  go_simp
  refine (put_any B b g s bs ss _ w rfl hsm hg hgb hP hlen hB).mono ?_
  rintro e w' ⟨rfl, h1, h2⟩
  exact hK w' h1 h2
theorem st_itoa {t B : Nat} {n : Int} (he : a.eval (.tmp t) = .int .i64 n) (h0 : -1000 ≤ n) (h1 : n ≤ 1000) (ht : TB B w) (hK : ∀ w', Below w.heap.size w w' → K (a.put (some d) (.string ⟨(Lib.itoa n).toArray⟩)) w') : Oper.wp Tryz.prog ⟨some d, .call { callee := .value (.func 29), args := #[.tmp t], argTypes := #[3] }, ty, pos, af, none⟩ a w K Q := by
  have g0 : a.tmps[t]?.getD undef = .int .i64 n := by simpa [Act.eval] using he
  unfold Oper.wp
  go_simp
  refine (itoa_any B n w h0 h1 ht).mono ?_
  rintro e w' ⟨rfl, hb⟩
  exact hK w' hb
end
end Go.Proofs.YtjpphjmehgflpaaGreatDoor
