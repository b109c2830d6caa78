/- A region that draws its order and copies modules into new variables: 'a, b := m, m'. -/
import Derived.Test.YtddbplgcglgloaaMAwake
import Derived.OrdersHeld
namespace Go.Proofs.Ytddbplgcglgloaa
open Go.RowKit Ex
set_option linter.unusedSimpArgs false
set_option linter.unusedVariables false

def mV (x : M8) : Nat → Value := fun i => x.cells.getD i undef
theorem mV_new (w : World) (x : M8) : (w.alloc (.cells x.cells 28)).rowIs w.heap.size 28 12 (mV x) :=
  World.rowIs_alloc w _ 28 _ (fun i hi => by
    have h : i < x.cells.size := by simpa [M8.cells] using hi
    unfold mV
    rw [Array.getElem?_eq_getElem h]
    simp [Array.getD, h])
theorem mV_box {w : World} {b : Nat} {x : M8} (h : w.rowIs b 28 12 (mV x)) : BoxM w b x := fun i v hv => by
  have hi : i < 12 := by
    have := (Array.getElem?_eq_some_iff.1 hv).1
    simpa [M8.cells] using this
  have := h.cell hi
  rw [this]
  unfold mV
  have h2 : i < x.cells.size := (Array.getElem?_eq_some_iff.1 hv).1
  rw [Array.getElem?_eq_getElem h2] at hv
  simp [Array.getD, h2]
  exact Option.some.inj hv
theorem box12 {w : World} {b : Nat} {x : M8} (h : BoxM w b x) : w.cell? ⟨b, 0, none⟩ = some x.vars.v ∧ w.cell? ⟨b, 1, none⟩ = some (.int .i64 x.ie.op) ∧ w.cell? ⟨b, 2, none⟩ = some (.int .i64 x.ie.n) ∧ w.cell? ⟨b, 3, none⟩ = some (.slice x.ie.A x.ie.len x.ie.cap) ∧ w.cell? ⟨b, 4, none⟩ = some (.int .i64 x.is.op) ∧ w.cell? ⟨b, 5, none⟩ = some (.int .i64 x.is.n) ∧ w.cell? ⟨b, 6, none⟩ = some (.slice x.is.A x.is.len x.is.cap) ∧ w.cell? ⟨b, 7, none⟩ = some x.env.v ∧ w.cell? ⟨b, 8, none⟩ = some x.sys.v ∧ w.cell? ⟨b, 9, none⟩ = some x.asm.v ∧ w.cell? ⟨b, 10, none⟩ = some x.ens.v ∧ w.cell? ⟨b, 11, none⟩ = some x.prio.v :=
  ⟨h 0 _ rfl, h 1 _ rfl, h 2 _ rfl, h 3 _ rfl, h 4 _ rfl, h 5 _ rfl, h 6 _ rfl, h 7 _ rfl, h 8 _ rfl, h 9 _ rfl, h 10 _ rfl, h 11 _ rfl⟩
/- a frame in which the slots of a list hold what v says -/
def sel (σ : List Nat) (a : Act) (v : Nat → Value) : Act := ⟨a.tmps.mapIdx (fun i x => if i ∈ σ then v i else x), a.defers⟩
section
variable {a : Act} {σ : List Nat} {v : Nat → Value}
theorem act_eq (s u : Array Value) (df : List Deferred) (e : s = u) : (⟨s, df⟩ : Act) = ⟨u, df⟩ := by rw [e]
theorem sel_put {j : Nat} (x : Value) (hj : j ∈ σ) : (sel σ a v).put (some j) x = sel σ a (fun k => if k = j then x else v k) := by
  unfold sel
  show (⟨_, _⟩ : Act) = _
  refine act_eq _ _ _ (Array.ext_getElem? fun i => ?_)
  rw [Array.getElem?_setIfInBounds, Array.getElem?_mapIdx, Array.getElem?_mapIdx]
  by_cases hi : i < a.tmps.size
  · by_cases h : j = i
    · subst h; simp [hi, hj]
    · rw [if_neg h]
      simp [hi]
      by_cases h3 : i ∈ σ
      · rw [if_pos h3, if_pos h3, if_neg (fun e => h e.symm)]
      · rw [if_neg h3, if_neg h3]
  · simp [hi]
    intro e; omega
theorem sel_in {j : Nat} (hj : j ∈ σ) (hs : j < a.tmps.size) : (sel σ a v).eval (.tmp j) = v j := by
  show (sel σ a v).tmps.getD j undef = v j
  unfold sel
  simp [Array.getD, hs, hj]
theorem sel_out {t : Nat} (h : t ∉ σ) : (sel σ a v).eval (.tmp t) = a.eval (.tmp t) := by
  show (sel σ a v).tmps.getD t undef = a.tmps.getD t undef
  unfold sel
  by_cases hs : t < a.tmps.size
  · simp [Array.getD, hs, h]
  · simp [Array.getD, hs]
theorem sel_self (a : Act) (σ : List Nat) : sel σ a (fun j => a.tmps.getD j undef) = a := by
  obtain ⟨tm, df⟩ := a
  unfold sel
  refine act_eq _ _ _ ?_
  apply Array.ext
  · simp
  · intro i h1 h2
    simp
    intro _
    simp [Array.getD, h2]
theorem sel_cons (s : Nat) : sel (s :: σ) a v = (sel σ a v).put (some s) (v s) := by
  unfold sel
  show _ = (⟨_, _⟩ : Act)
  refine act_eq _ _ _ (Array.ext_getElem? fun i => ?_)
  rw [Array.getElem?_setIfInBounds, Array.getElem?_mapIdx, Array.getElem?_mapIdx]
  by_cases hi : i < a.tmps.size
  · by_cases h : s = i
    · subst h; simp [hi]
    · rw [if_neg h]
      have h' : ¬ i = s := fun e => h e.symm
      simp [hi, h']
  · simp [hi]
    intro e; omega
theorem sel_nil : sel [] a v = a := by
  obtain ⟨tm, df⟩ := a
  unfold sel
  refine act_eq _ _ _ ?_
  apply Array.ext
  · simp
  · intro i h1 h2; simp
end
theorem ready_lt {md : Region.Mode} {ops : Array Oper} {listed : Array Bool} {i : Nat} (h : i ∈ Region.ready md ops listed) (hs : listed.size = ops.size) : i < listed.size ∧ listed[i]? = some false := by
  obtain ⟨h1, o, ho, _⟩ := mem_ready.1 h
  have hi : i < ops.size := (Array.getElem?_eq_some_iff.1 ho).1
  have hi2 : i < listed.size := by omega
  refine ⟨hi2, ?_⟩
  simp [Array.getD, hi2] at h1
  simp [hi2, h1]
theorem wpAny_inv {P : Program} {md : Region.Mode} {ops : Array Oper} {Q : Exit → Act → World → Prop} {I : Array Bool → Act → World → Prop}
    (hstep : ∀ listed a w i, listed.size = ops.size → I listed a w → i ∈ Region.ready md ops listed → wpOp P ops Q i (fun a' w' => I (listed.setIfInBounds i true) a' w') a w)
    (hend : ∀ listed a w, listed.size = ops.size → Region.ready md ops listed = [] → I listed a w → Q .normal a w) :
    ∀ fuel listed a w, listed.size = ops.size → listed.countP (· == false) ≤ fuel → I listed a w → wpAny P md ops Q fuel listed a w := by
  intro fuel
  induction fuel with
  | zero =>
    intro listed a w hs hc hI
    have h0 : Region.ready md ops listed = [] := by
      cases hr : Region.ready md ops listed with
      | nil => rfl
      | cons x xs =>
        obtain ⟨h1, h2⟩ := ready_lt (i := x) (by rw [hr]; simp) hs
        have h3 : 0 < listed.countP (· == false) := by
          rw [Array.countP_pos_iff]
          obtain ⟨h4, h5⟩ := Array.getElem?_eq_some_iff.1 h2
          exact ⟨_, Array.getElem_mem h4, by simp [h5]⟩
        omega
    exact ⟨h0, hend listed a w hs h0 hI⟩
  | succ fuel ih =>
    intro listed a w hs hc hI
    refine ⟨fun h0 => hend listed a w hs h0 hI, fun i hi => wpOp_mono (fun a' w' h' => ih _ a' w' (by simpa using hs) ?_ h') (hstep listed a w i hs hI hi)⟩
    obtain ⟨h1, h2⟩ := ready_lt hi hs
    obtain ⟨h4, h5⟩ := Array.getElem?_eq_some_iff.1 h2
    have := Array.countP_set (p := (· == false)) (xs := listed) (i := i) (a := true) h4
    rw [h5] at this
    have e : listed.setIfInBounds i true = listed.set i true h4 := by simp [Array.setIfInBounds, h4]
    rw [e, this]
    have h6 : 0 < listed.countP (· == false) := by
      rw [Array.countP_pos_iff]
      exact ⟨_, Array.getElem_mem h4, by simp [h5]⟩
    rw [if_pos (by rfl), if_neg (by simp)]
    omega
theorem wp_val {P : Program} {o : Oper} {a : Act} {w w' : World} {v : Value} {K : Act → World → Prop} {Q : Exit → Act → World → Prop} (h : (execOp a.eval o).run P w = .ok (.value v) w') (hK : K (a.put o.dst v) w') : Oper.wp P o a w K Q := by
  unfold Oper.wp
  rw [h]
  exact hK
section
variable {a : Act} {w : World} {K : Act → World → Prop} {Q : Exit → Act → World → Prop} {d ty : Nat} {pos : String} {af : Array Edge}
theorem st_loadM {t b : Nat} {x : M8} (he : a.eval (.tmp t) = .pointer (some ⟨b, 0, none⟩)) (hc : BoxM w b x)
    (hK : K (a.put (some d) (.agg x.cells)) w) : Oper.wp Try.prog ⟨some d, .load 28 (.tmp t), ty, pos, af, none⟩ a w K Q := by
  obtain ⟨c0, c1, c2, c3, c4, c5, c6, c7, c8, c9, c10, c11⟩ := box12 hc
  obtain ⟨⟨vA, vn, vc⟩, ⟨io, im, iA, il, ic⟩, ⟨jo, jm, jA, jl, jc⟩, ⟨eA, en, ec⟩, ⟨sA, sn, sc⟩, ⟨aA, an, ac⟩, ⟨nA, nn, nc⟩, ⟨pA, pn, pc⟩⟩ := x
  simp only [M8.cells, SL.v] at *
  refine wp_val ?_ hK
  simp only [execOp, he]
  go_simp
def zeroM : M8 := ⟨⟨none, 0, 0⟩, ⟨0, 0, none, 0, 0⟩, ⟨0, 0, none, 0, 0⟩, ⟨none, 0, 0⟩, ⟨none, 0, 0⟩, ⟨none, 0, 0⟩, ⟨none, 0, 0⟩, ⟨none, 0, 0⟩⟩
theorem st_allocM (hK : K (a.put (some d) (.pointer (some ⟨w.heap.size, 0, none⟩))) (w.alloc (.cells zeroM.cells 28))) : Oper.wp Try.prog ⟨some d, .alloc 28, ty, pos, af, none⟩ a w K Q := by
  refine wp_val ?_ hK
  simp only [zeroM, M8.cells, SL.v]
  go_simp
theorem st_storeM {t u b : Nat} {x : M8} {f : Nat → Value} (he : a.eval (.tmp t) = .pointer (some ⟨b, 0, none⟩)) (hx : a.eval (.tmp u) = .agg x.cells) (hr : w.rowIs b 28 12 f)
    (hK : ∀ w' : World, w'.rowIs b 28 12 (mV x) → w'.heap.size = w.heap.size → (∀ c, c ≠ b → w'.heap[c]? = w.heap[c]?) → (∀ B, B ≤ b → Below B w w') → K a w') : Oper.wp Try.prog ⟨none, .store 28 (.tmp t) (.tmp u), ty, pos, af, none⟩ a w K Q := by
  have c0 := hr.cell (i := 0) (by omega)
  have c1 := hr.cell (i := 1) (by omega)
  have c2 := hr.cell (i := 2) (by omega)
  have c3 := hr.cell (i := 3) (by omega)
  have c4 := hr.cell (i := 4) (by omega)
  have c5 := hr.cell (i := 5) (by omega)
  have c6 := hr.cell (i := 6) (by omega)
  have c7 := hr.cell (i := 7) (by omega)
  have c8 := hr.cell (i := 8) (by omega)
  have c9 := hr.cell (i := 9) (by omega)
  have c10 := hr.cell (i := 10) (by omega)
  have c11 := hr.cell (i := 11) (by omega)
  have z0 := hr.frozen 0
  have z1 := hr.frozen 1
  have z2 := hr.frozen 2
  have z3 := hr.frozen 3
  have z4 := hr.frozen 4
  have z5 := hr.frozen 5
  have z6 := hr.frozen 6
  have z7 := hr.frozen 7
  have z8 := hr.frozen 8
  have z9 := hr.frozen 9
  have z10 := hr.frozen 10
  have z11 := hr.frozen 11
  obtain ⟨⟨vA, vn, vc⟩, ⟨io, im, iA, il, ic⟩, ⟨jo, jm, jA, jl, jc⟩, ⟨eA, en, ec⟩, ⟨sA, sn, sc⟩, ⟨aA, an, ac⟩, ⟨nA, nn, nc⟩, ⟨pA, pn, pc⟩⟩ := x
  have h2 : a.tmps[u]?.getD undef = .agg #[.slice vA vn vc, .int .i64 io, .int .i64 im, .slice iA il ic, .int .i64 jo, .int .i64 jm, .slice jA jl jc, .slice eA en ec, .slice sA sn sc, .slice aA an ac, .slice nA nn nc, .slice pA pn pc] := by simpa [Act.eval, M8.cells, SL.v] using hx
  have h1 : a.tmps[t]?.getD undef = .pointer (some ⟨b, 0, none⟩) := by simpa [Act.eval] using he
  have hK2 := hK ((((((((((((w.setCell ⟨b, 0, none⟩ (.slice vA vn vc)).setCell ⟨b, 1, none⟩ (.int .i64 io)).setCell ⟨b, 2, none⟩ (.int .i64 im)).setCell ⟨b, 3, none⟩ (.slice iA il ic)).setCell ⟨b, 4, none⟩ (.int .i64 jo)).setCell ⟨b, 5, none⟩ (.int .i64 jm)).setCell ⟨b, 6, none⟩ (.slice jA jl jc)).setCell ⟨b, 7, none⟩ (.slice eA en ec)).setCell ⟨b, 8, none⟩ (.slice sA sn sc)).setCell ⟨b, 9, none⟩ (.slice aA an ac)).setCell ⟨b, 10, none⟩ (.slice nA nn nc)).setCell ⟨b, 11, none⟩ (.slice pA pn pc))
    ((((((((((((((hr.set 0 _).set 1 _).set 2 _).set 3 _).set 4 _).set 5 _).set 6 _).set 7 _).set 8 _).set 9 _).set 10 _).set 11 _)).congr (fun i hi => by
      have h : i = 0 ∨ i = 1 ∨ i = 2 ∨ i = 3 ∨ i = 4 ∨ i = 5 ∨ i = 6 ∨ i = 7 ∨ i = 8 ∨ i = 9 ∨ i = 10 ∨ i = 11 := by omega
      rcases h with rfl | rfl | rfl | rfl | rfl | rfl | rfl | rfl | rfl | rfl | rfl | rfl <;> rfl))
    (by simp [World.setCell])
    (fun c hc => by
      have hq : ∀ (v : World) (i : Nat) (u : Value), (v.setCell ⟨b, i, none⟩ u).heap[c]? = v.heap[c]? := fun v i u => Below.heap_setCell _ _ _ _ (by exact hc)
      rw [hq, hq, hq, hq, hq, hq, hq, hq, hq, hq, hq, hq])
    (fun B hB => by
      have hq : ∀ (v : World) (i : Nat) (u : Value), Below B w v → Below B w (v.setCell ⟨b, i, none⟩ u) := fun v i u h => h.setCell (by exact hB) _
      exact hq _ _ _ (hq _ _ _ (hq _ _ _ (hq _ _ _ (hq _ _ _ (hq _ _ _ (hq _ _ _ (hq _ _ _ (hq _ _ _ (hq _ _ _ (hq _ _ _ (hq _ _ _ (Below.refl _ _)))))))))))))
  clear hK hr he hx
  unfold Oper.wp
  go_simp
  exact hK2
end
theorem lst_set {l : Array Bool} {i k : Nat} (h : (l.setIfInBounds i true).getD k false = true) : k = i ∨ l.getD k false = true := by
  by_cases e : k = i
  · exact .inl e
  · right
    by_cases hk : k < l.size
    · have e' : ¬ i = k := fun h => e h.symm
      simp [Array.getD, hk, Array.getElem_setIfInBounds, e'] at h ⊢
      exact h
    · simp [Array.getD, hk] at h
theorem lst_mono {l : Array Bool} {i k : Nat} (h : l.getD k false = true) : (l.setIfInBounds i true).getD k false = true := by
  by_cases hk : k < l.size
  · by_cases e : i = k
    · simp [Array.getD, hk, Array.getElem_setIfInBounds, e]
    · simp [Array.getD, hk, Array.getElem_setIfInBounds, e] at h ⊢
      exact h
  · simp [Array.getD, hk] at h
theorem ready_allB {md : Region.Mode} {ops : Array Oper} {listed : Array Bool} (hac : ∀ (j : Nat) (o : Oper), ops[j]? = some o → ∀ e ∈ o.after, Region.binds md e = true → e.on < j) (hs : listed.size = ops.size) (h0 : Region.ready md ops listed = []) : ∀ j, j < ops.size → listed.getD j false = true := by
  intro j
  induction j using Nat.strongRecOn with
  | _ j ih =>
    intro hj
    have hj2 : j < listed.size := by omega
    cases hl : listed[j] with
    | true => simp [Array.getD, hj2, hl]
    | false =>
      exfalso
      have : j ∈ Region.ready md ops listed := mem_ready.2 ⟨by simp [Array.getD, hj2, hl], ops[j], Array.getElem?_eq_getElem hj, fun e he hb => ih e.on (hac j _ (Array.getElem?_eq_getElem hj) e he hb) (by have := hac j _ (Array.getElem?_eq_getElem hj) e he hb; omega)⟩
      rw [h0] at this
      simp at this
set_option maxRecDepth 100000 in
theorem copies {id n src b : Nat} {ops : Array Oper} {Q : Exit → Act → World → Prop} {a0 : Act} {W : World} {x : M8} (L D : Nat → Nat) (σ : List Nat)
    (hm : Try.prog.follows .mixedOrders = true) (hsz : ops.size = 3 * n)
    (hL : ∀ j, j < n → ∃ ty pos af, ops[j]? = some ⟨some (L j), .load 28 (.tmp src), ty, pos, af, none⟩)
    (hD : ∀ j, j < n → ∃ ty pos af, ops[n + j]? = some ⟨some (D j), .alloc 28, ty, pos, af, none⟩)
    (hS : ∀ j, j < n → ∃ ty pos af, ops[2 * n + j]? = some ⟨none, .store 28 (.tmp (D j)) (.tmp (L j)), ty, pos, af, none⟩ ∧ (∃ e ∈ af, e.on = j ∧ Region.binds .any e = true) ∧ (∃ e ∈ af, e.on = n + j ∧ Region.binds .any e = true))
    (hac : ∀ (j : Nat) (o : Oper), ops[j]? = some o → ∀ e ∈ o.after, Region.binds .any e = true → e.on < j)
    (hσ : ∀ j, j < n → L j ∈ σ ∧ D j ∈ σ ∧ L j < a0.tmps.size ∧ D j < a0.tmps.size) (hsr : src ∉ σ)
    (hLD : ∀ i j, i < n → j < n → L i ≠ D j) (hDD : ∀ i j, i < n → j < n → i ≠ j → D i ≠ D j)
    (hsrc : a0.eval (.tmp src) = .pointer (some ⟨b, 0, none⟩)) (hbx : BoxM W b x) (hb : b < W.heap.size)
    (hend : ∀ (v : Nat → Value) (p : Nat → Nat) (w : World), (∀ j, j < n → v (L j) = .agg x.cells ∧ v (D j) = .pointer (some ⟨p j, 0, none⟩) ∧ W.heap.size ≤ p j ∧ p j < w.heap.size ∧ w.rowIs (p j) 28 12 (mV x)) → (∀ i j, i < n → j < n → i ≠ j → p i ≠ p j) → Below W.heap.size W w → Q .normal (sel σ a0 v) w) :
    (Code.region id ops true).wp Try.prog Q a0 W := by
  refine wp_region_any hm (wpAny_inv (I := fun listed a w => Below W.heap.size W w ∧ ∃ (v : Nat → Value) (p : Nat → Nat), a = sel σ a0 v ∧ (∀ j, j < n → listed.getD j false = true → v (L j) = .agg x.cells) ∧
    (∀ j, j < n → listed.getD (n + j) false = true → v (D j) = .pointer (some ⟨p j, 0, none⟩) ∧ W.heap.size ≤ p j ∧ p j < w.heap.size ∧ ∃ f, w.rowIs (p j) 28 12 f ∧ (listed.getD (2 * n + j) false = true → f = mV x)) ∧
    (∀ i j, i < n → j < n → i ≠ j → listed.getD (n + i) false = true → listed.getD (n + j) false = true → p i ≠ p j) ∧ (∀ j, j < n → listed.getD (2 * n + j) false = true → listed.getD (n + j) false = true)) ?_ ?_ _ _ _ _ (by simp) (by rw [Array.countP_replicate]; simp) ?_)
  · rintro listed a w i hs ⟨hbw, v, p, rfl, h1, h2, h3, h4⟩ hi
    obtain ⟨hl0, o, ho, hd⟩ := mem_ready.1 hi
    have hio : i < ops.size := (Array.getElem?_eq_some_iff.1 ho).1
    have hilt : i < listed.size := by omega
    have hil : listed.getD i false = false := by
      simp [Array.getD, hilt] at hl0 ⊢; exact hl0
    unfold wpOp
    rw [ho]
    by_cases hi1 : i < n
    · obtain ⟨ty, pos, af, e⟩ := hL i hi1
      rw [ho] at e
      obtain rfl := Option.some.inj e
      obtain ⟨q1, q2, q3, q4⟩ := hσ i hi1
      simp only [Region.wanted, if_true]
      refine .inl (st_loadM (b := b) (x := x) (by rw [sel_out hsr]; exact hsrc) (hbx.below hbw hb) ⟨hbw, fun k => if k = L i then .agg x.cells else v k, p, by rw [sel_put _ q1], fun j hj hl => ?_, fun j hj hl => ?_, fun i' j hi' hj hne l1 l2 => ?_, fun j hj hl => ?_⟩)
      · show (if L j = L i then _ else _) = _
        by_cases e : L j = L i
        · rw [if_pos e]
        · rw [if_neg e]
          rcases lst_set hl with h | h
          · subst h; exact absurd rfl e
          · exact h1 j hj h
      · rcases lst_set hl with h | h
        · omega
        · obtain ⟨r1, r2, r3, f, r4, r5⟩ := h2 j hj h
          refine ⟨?_, r2, r3, f, r4, fun hq => ?_⟩
          · show (if D j = L i then _ else _) = _
            rw [if_neg (fun e => hLD i j hi1 hj e.symm)]; exact r1
          · rcases lst_set hq with h | h
            · omega
            · exact r5 h
      · rcases lst_set l1 with h | h
        · omega
        · rcases lst_set l2 with h' | h'
          · omega
          · exact h3 i' j hi' hj hne h h'
      · rcases lst_set hl with h | h
        · omega
        · exact lst_mono (h4 j hj h)
    · by_cases hi2 : i < 2 * n
      · obtain ⟨k, rfl⟩ : ∃ k, i = n + k := ⟨i - n, by omega⟩
        have hk : k < n := by omega
        obtain ⟨ty, pos, af, e⟩ := hD k hk
        rw [ho] at e
        obtain rfl := Option.some.inj e
        obtain ⟨q1, q2, q3, q4⟩ := hσ k hk
        simp only [Region.wanted, if_true]
        have hz := hbw.size
        have hnb : Below w.heap.size w (w.alloc (.cells zeroM.cells 28)) := (Below.refl _ _).alloc (Nat.le_refl _) _
        have hzn : (w.alloc (.cells zeroM.cells 28)).heap.size = w.heap.size + 1 := by simp
        refine .inl (st_allocM ⟨hbw.trans (hnb.mono hz), fun j => if j = D k then .pointer (some ⟨w.heap.size, 0, none⟩) else v j, fun j => if j = k then w.heap.size else p j, by rw [sel_put _ q2], fun j hj hl => ?_, fun j hj hl => ?_, fun i' j hi' hj hne l1 l2 => ?_, fun j hj hl => ?_⟩)
        · show (if L j = D k then _ else _) = _
          rw [if_neg (hLD j k hj hk)]
          rcases lst_set hl with h | h
          · omega
          · exact h1 j hj h
        · by_cases e : j = k
          · subst e
            refine ⟨by simp, by simp; exact hz, by simp, mV zeroM, by simp; exact mV_new w zeroM, fun hq => ?_⟩
            rcases lst_set hq with h | h
            · omega
            · exfalso
              have := h4 j hj h
              rw [hil] at this; cases this
          · rcases lst_set hl with h | h
            · omega
            · obtain ⟨r1, r2, r3, f, r4, r5⟩ := h2 j hj h
              refine ⟨?_, by simp [e]; exact r2, by simp [e]; omega, f, by simp [e]; exact r4.alloc _, fun hq => ?_⟩
              · show (if D j = D k then _ else _) = _
                rw [if_neg (hDD j k hj hk e)]; simp [e]; exact r1
              · rcases lst_set hq with h | h
                · omega
                · exact r5 h
        · have old : ∀ j, j < n → j ≠ k → (listed.setIfInBounds (n + k) true).getD (n + j) false = true → p j < w.heap.size := fun j hj hne hl => by
            rcases lst_set hl with h | h
            · omega
            · exact (h2 j hj h).2.2.1
          show (if i' = k then _ else _) ≠ (if j = k then _ else _)
          by_cases e1 : i' = k
          · rw [if_pos e1, if_neg (by omega)]
            have := old j hj (by omega) l2; omega
          · rw [if_neg e1]
            by_cases e2 : j = k
            · rw [if_pos e2]
              have := old i' hi' e1 l1; omega
            · rw [if_neg e2]
              rcases lst_set l1 with h | h
              · omega
              · rcases lst_set l2 with h' | h'
                · omega
                · exact h3 i' j hi' hj hne h h'
        · rcases lst_set hl with h | h
          · omega
          · exact lst_mono (h4 j hj h)
      · obtain ⟨k, rfl⟩ : ∃ k, i = 2 * n + k := ⟨i - 2 * n, by omega⟩
        have hk : k < n := by omega
        obtain ⟨ty, pos, af, e, ⟨e1, he1, ho1, hb1⟩, ⟨e2, he2, ho2, hb2⟩⟩ := hS k hk
        rw [ho] at e
        obtain rfl := Option.some.inj e
        obtain ⟨q1, q2, q3, q4⟩ := hσ k hk
        have l1 := hd e1 he1 hb1
        have l2 := hd e2 he2 hb2
        rw [ho1] at l1
        rw [ho2] at l2
        have hv1 := h1 k hk l1
        obtain ⟨r1, r2, r3, f, r4, r5⟩ := h2 k hk l2
        simp only [Region.wanted, if_true]
        refine .inl (st_storeM (b := p k) (x := x) (by rw [sel_in q2 q4]; exact r1) (by rw [sel_in q1 q3]; exact hv1) r4 (fun w' hrow hzw hfar hbl => ⟨hbw.trans (hbl _ r2), v, p, rfl, fun j hj hl => ?_, fun j hj hl => ?_, fun i' j hi' hj hne l1' l2' => ?_, fun j hj hl => ?_⟩))
        · rcases lst_set hl with h | h
          · omega
          · exact h1 j hj h
        · rcases lst_set hl with h | h
          · omega
          · obtain ⟨s1, s2, s3, g, s4, s5⟩ := h2 j hj h
            by_cases e : j = k
            · subst e
              exact ⟨s1, s2, by omega, mV x, hrow, fun _ => rfl⟩
            · refine ⟨s1, s2, by omega, g, s4.of_block (hfar _ (h3 j k hj hk e h l2)), fun hq => ?_⟩
              rcases lst_set hq with h | h
              · omega
              · exact s5 h
        · rcases lst_set l1' with h | h
          · omega
          · rcases lst_set l2' with h' | h'
            · omega
            · exact h3 i' j hi' hj hne h h'
        · rcases lst_set hl with h | h
          · obtain rfl : j = k := by omega
            exact lst_mono l2
          · exact lst_mono (h4 j hj h)
  · rintro listed a w hs h0 ⟨hbw, v, p, rfl, h1, h2, h3, h4⟩
    have hall := ready_allB hac hs h0
    refine hend v p w (fun j hj => ?_) (fun i j hi hj hne => h3 i j hi hj hne (hall _ (by omega)) (hall _ (by omega))) hbw
    obtain ⟨r1, r2, r3, f, r4, r5⟩ := h2 j hj (hall _ (by omega))
    have := r5 (hall _ (by omega))
    subst this
    exact ⟨h1 j hj (hall _ (by omega)), r1, r2, r3, r4⟩
  · refine ⟨⟨rfl, rfl, rfl, Nat.le_refl _, fun _ _ => rfl⟩, fun j => a0.tmps.getD j undef, fun _ => 0, (sel_self a0 σ).symm, fun j hj hl => ?_, fun j hj hl => ?_, fun i j hi hj hne l1 l2 => ?_, fun j hj hl => ?_⟩
    · simp [Array.getD] at hl
    · simp [Array.getD] at hl
    · simp [Array.getD] at l1
    · simp [Array.getD] at hl
end Go.Proofs.Ytddbplgcglgloaa
