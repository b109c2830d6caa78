/- A region that draws its order, whose operations on memory come one after another (a chain); the others only read: what memory holds is said stage by stage. What the reference's Build holds while it goes on, in blocks of their own: the tables of numbers, the vertices, the owners, the rows. The region of the reference's Build that puts a sorted row to the rows. -/
import Derived.Test.YtbppdalfcldodaaGreatMRes
import Derived.Test.YtbppdalfcldodaaGreatGSrt
import Derived.Test.YtbppdalfcldodaaGreatABuild
namespace Go.Proofs.YtbppdalfcldodaaGreat
open Go.RowKit Ex
set_option linter.unusedSimpArgs false
set_option linter.unusedVariables false

theorem region_chain {id n : Nat} {ops : Array Oper} {Q : Exit → Act → World → Prop} {a0 : Act} {W : World} (σ : List Nat) (dst : Nat → Nat) (deps : Nat → List Nat) (ch : List Nat) (S : Nat → Value → Prop) (M : Nat → (Nat → Value) → World → Prop)
    (hm : Tryz.prog.follows .mixedOrders = true) (hsz : ops.size = n) (hac : ownAc ops = true) (hdep : ownDeps ops deps = true)
    (hdst : ∀ i o, ops[i]? = some o → (o.dst = some (dst i) ∧ dst i ∈ σ ∧ dst i < a0.tmps.size) ∨ (o.dst = none ∧ dst i ∉ σ))
    (hinj : ∀ i j, i < n → j < n → dst i = dst j → i = j)
    (hlt : ∀ i j, i < n → j ∈ deps i → j < n)
    (hch : ∀ s t, s < ch.length → t < s → ch.getD t 0 ∈ deps (ch.getD s 0))
    (hchn : ∀ s, s < ch.length → ch.getD s 0 < n) (hchi : ∀ s t, s < ch.length → t < ch.length → ch.getD s 0 = ch.getD t 0 → s = t)
    (hM : ∀ s v v' w, (∀ t, t < s → v (ch.getD t 0) = v' (ch.getD t 0)) → M s v w → M s v' w)
    (h0 : ∀ v, M 0 v W.drew)
    (hpure : ∀ i o (a : Act) (w : World) (v : Nat → Value) (s : Nat) (K : Act → World → Prop), i < n → ops[i]? = some o → (∀ t, t < ch.length → ch.getD t 0 ≠ i) →
      (∀ q, q ∉ σ → a.eval (.tmp q) = a0.eval (.tmp q)) → (∀ j ∈ deps i, (dst j ∈ σ → a.eval (.tmp (dst j)) = v j) ∧ S j (v j)) → (∀ t, t < ch.length → i ∈ deps (ch.getD t 0) → s ≤ t) → M s v w →
      (∀ x, S i x → K (a.put o.dst x) w) → Oper.wp Tryz.prog o a w K Q)
    (hstep : ∀ s o (a : Act) (w : World) (v : Nat → Value) (K : Act → World → Prop), s < ch.length → ops[ch.getD s 0]? = some o →
      (∀ q, q ∉ σ → a.eval (.tmp q) = a0.eval (.tmp q)) → (∀ j ∈ deps (ch.getD s 0), (dst j ∈ σ → a.eval (.tmp (dst j)) = v j) ∧ S j (v j)) → M s v w →
      (∀ x w', S (ch.getD s 0) x → M (s + 1) (fun k => if k = ch.getD s 0 then x else v k) w' → K (a.put o.dst x) w') → Oper.wp Tryz.prog o a w K Q)
    (hend : ∀ (u v : Nat → Value) (w : World), (∀ j, j < n → dst j ∈ σ → u (dst j) = v j) → (∀ j, j < n → S j (v j)) → M ch.length v w → Q .normal (sel σ a0 u) w) :
    (Code.region id ops true).wp Tryz.prog Q a0 W := by
  have hac1 : ∀ (j : Nat) (o : Oper), ops[j]? = some o → ∀ e ∈ o.after, Region.binds .any e = true → e.on < j := fun j o ho => (ownAc_spec hac j o ho).1
  have hdp := ownDeps_spec hdep
  refine wp_region_any hm (wpAny_inv (I := fun listed a w => ∃ (u : Nat → Value) (g : Nat → Value) (s : Nat), a = sel σ a0 u ∧ (∀ j, j < n → dst j ∈ σ → u (dst j) = g j) ∧
    (∀ j, j < n → listed.getD j false = true → S j (g j)) ∧ s ≤ ch.length ∧ (∀ t, t < ch.length → listed.getD (ch.getD t 0) false = decide (t < s)) ∧
    (∀ i j, i < n → listed.getD i false = true → j ∈ deps i → listed.getD j false = true) ∧ M s g w) ?_ ?_ _ _ _ _ (by simp) (by rw [Array.countP_replicate]; simp) ?_)
  · rintro listed a w i hs ⟨u, g, s, rfl, hug, h1, hsl, h2, h4, hMs⟩ hi
    obtain ⟨hl0, o, ho, hd⟩ := mem_ready.1 hi
    have hio : i < ops.size := (Array.getElem?_eq_some_iff.1 ho).1
    have hin : i < n := by omega
    have hilt : i < listed.size := by omega
    have hil : listed.getD i false = false := by
      simp [Array.getD, hilt] at hl0 ⊢; exact hl0
    have hgd := (ownAc_spec hac i o ho).2
    have hdl : ∀ j ∈ deps i, listed.getD j false = true := fun j hj => by
      obtain ⟨e, he, rfl, hb⟩ := hdp i o ho j hj
      exact hd e he hb
    have hset : ∀ k, k ≠ i → (listed.setIfInBounds i true).getD k false = listed.getD k false := fun k hk => by
      have hk' : ¬ i = k := fun e => hk e.symm
      by_cases hks : k < listed.size
      · simp [Array.getD, hks, Array.getElem_setIfInBounds, hk']
      · simp [Array.getD, hks]
    have hsi : (listed.setIfInBounds i true).getD i false = true := by simp [Array.getD, hilt]
    have hval : ∀ j ∈ deps i, (dst j ∈ σ → (sel σ a0 u).eval (.tmp (dst j)) = g j) ∧ S j (g j) := fun j hj => by
      have hjn := hlt i j hin hj
      refine ⟨fun hσ => ?_, h1 j hjn (hdl j hj)⟩
      have hoj := Array.getElem?_eq_getElem (xs := ops) (i := j) (by omega)
      rcases hdst j _ hoj with ⟨_, q1, q2⟩ | ⟨_, q1⟩
      · rw [sel_in q1 q2, hug j hjn q1]
      · exact absurd hσ q1
    have hclose : ∀ (k j : Nat), k < n → (listed.setIfInBounds i true).getD k false = true → j ∈ deps k → (listed.setIfInBounds i true).getD j false = true := fun k j hk hl hjd => by
      by_cases e : k = i
      · subst e; exact lst_mono (hdl j hjd)
      · rw [hset k e] at hl
        exact lst_mono (h4 k j hk hl hjd)
    have newg : ∀ (x : Value), (∀ j, j < n → dst j ∈ σ → (fun k => if k = dst i ∧ o.dst ≠ none then x else u k) (dst j) = (fun k => if k = i then x else g k) j) ∧ (sel σ a0 u).put o.dst x = sel σ a0 (fun k => if k = dst i ∧ o.dst ≠ none then x else u k) := fun x => by
      rcases hdst i o ho with ⟨q0, q1, q2⟩ | ⟨q0, q1⟩
      · refine ⟨fun j hj hσ => ?_, ?_⟩
        · by_cases e : j = i
          · subst e; simp [q0]
          · have hne : ¬ dst j = dst i := fun h => e (hinj j i hj hin h)
            simp [e, hne, hug j hj hσ]
        · rw [q0, sel_put _ q1]; simp
      · refine ⟨fun j hj hσ => ?_, ?_⟩
        · have e : ¬ j = i := fun e => q1 (e ▸ hσ)
          simp [q0, e, hug j hj hσ]
        · rw [q0]; simp [Act.put]
    have hS : ∀ (x : Value), S i x → ∀ j, j < n → (listed.setIfInBounds i true).getD j false = true → S j ((fun k => if k = i then x else g k) j) := fun x hx j hj hl => by
      by_cases e : j = i
      · subst e; simpa using hx
      · rw [hset j e] at hl
        simp only [e, if_false]
        exact h1 j hj hl
    unfold wpOp
    rw [ho]
    simp only [Region.wanted, hgd, if_true]
    by_cases hc : ∃ t, t < ch.length ∧ ch.getD t 0 = i
    · obtain ⟨t, ht, hti⟩ := hc
      have hts : t = s := by
        have e1 := h2 t ht
        rw [hti, hil] at e1
        have e2 : ¬ t < s := of_decide_eq_false e1.symm
        have e3 : ∀ t', t' < t → t' < s := fun t' h => by
          have := hdl _ (hti ▸ hch t t' ht h)
          rw [h2 t' (by omega)] at this
          exact of_decide_eq_true this
        by_cases h : s < t
        · have := e3 s h; omega
        · omega
      subst hts
      refine .inl (hstep t o (sel σ a0 u) w g _ ht (by rw [hti]; exact ho) (fun q hq => sel_out hq) (by rw [hti]; exact hval) hMs (fun x w' hx hMx => ?_))
      obtain ⟨n1, n2⟩ := newg x
      rw [hti] at hx hMx
      exact ⟨_, _, t + 1, n2, n1, hS x hx, by omega, fun t' ht' => by
        by_cases e : t' = t
        · subst e; rw [hti, hsi]; simp
        · have hne : ch.getD t' 0 ≠ i := fun h => e (hchi t' t ht' ht (h.trans hti.symm))
          rw [hset _ hne, h2 t' ht']
          rw [decide_eq_decide]; omega, hclose, hMx⟩
    · refine .inl (hpure i o (sel σ a0 u) w g s _ hin ho (fun t ht e => hc ⟨t, ht, e⟩) (fun q hq => sel_out hq) hval (fun t ht hdt => ?_) hMs (fun x hx => ?_))
      · cases hlt2 : listed.getD (ch.getD t 0) false with
        | false =>
          have := h2 t ht
          rw [hlt2] at this
          have := of_decide_eq_false this.symm
          omega
        | true => have := h4 _ i (hchn t ht) hlt2 hdt; rw [hil] at this; cases this
      · obtain ⟨n1, n2⟩ := newg x
        refine ⟨_, _, s, n2, n1, hS x hx, hsl, fun t' ht' => ?_, hclose, hM s g _ w (fun t' ht' => ?_) hMs⟩
        · rw [hset _ (fun h => hc ⟨t', ht', h⟩), h2 t' ht']
        · have hne : ch.getD t' 0 ≠ i := fun h => hc ⟨t', by omega, h⟩
          show g _ = if _ then x else g _
          rw [if_neg hne]
  · rintro listed a w hs h0' ⟨u, g, s, rfl, hug, h1, hsl, h2, h4, hMs⟩
    have hall := ready_allB hac1 hs h0'
    have hse : s = ch.length := by
      by_cases h : s < ch.length
      · have := h2 s h
        rw [hall _ (by have := hchn s h; omega)] at this
        simp at this
      · omega
    subst hse
    exact hend u g w hug (fun j hj => h1 j hj (hall _ (by omega))) hMs
  · exact ⟨fun j => a0.tmps.getD j undef, fun j => a0.tmps.getD (dst j) undef, 0, (sel_self a0 σ).symm, fun _ _ _ => rfl, fun j _ h => by simp [Array.getD] at h, Nat.zero_le _, fun t ht => by simp [Array.getD], fun i j _ h => by simp [Array.getD] at h, h0 _⟩
end Go.Proofs.YtbppdalfcldodaaGreat
set_option maxRecDepth 100000
namespace Go.Proofs.YtbppdalfcldodaaGreat
open Go.RowKit Ex
set_option linter.unusedSimpArgs false
set_option linter.unusedVariables false
theorem erase_perm {α : Type} : ∀ (l : List α) (i : Nat) (h : i < l.length), (l[i] :: l.eraseIdx i).Perm l
  | a :: l, 0, _ => by simp
  | a :: l, i + 1, h => by
    simp only [List.getElem_cons_succ, List.eraseIdx_cons_succ]
    exact (List.Perm.swap a _ _).trans ((erase_perm l i (by simpa using h)).cons a)
theorem Sep.foc {lo : Nat} {w : World} {X : List Itm} (h : Sep lo w X) (k : Nat) (hk : k < X.length) : Sep lo w (X[k] :: X.eraseIdx k) := h.perm (erase_perm X k hk).symm
theorem Sep.unf {lo : Nat} {w : World} {X : List Itm} {i : Itm} (k : Nat) (hk : k < X.length) (h : Sep lo w (i :: X.eraseIdx k)) : Sep lo w (X.set k i) := by
  have h1 := erase_perm (X.set k i) k (by simpa using hk)
  have e1 : (X.set k i).eraseIdx k = X.eraseIdx k := by
    apply List.ext_getElem?
    intro j
    rw [List.getElem?_eraseIdx, List.getElem?_eraseIdx]
    split
    · rw [List.getElem?_set_ne (by omega)]
    · rw [List.getElem?_set_ne (by omega)]
  rw [e1] at h1
  simp only [List.getElem_set_self] at h1
  exact h.perm h1
open Classical in
noncomputable def tabF (l : List Vx) (x : Vx) : Int := if x ∈ l then numI l x + 1 else 0
theorem tab_in {l : List Vx} {x : Vx} (h : x ∈ l) : tabF l x = numI l x + 1 := by unfold tabF; rw [if_pos h]
theorem tab_out {l : List Vx} {x : Vx} (h : x ∉ l) : tabF l x = 0 := by unfold tabF; rw [if_neg h]
theorem tab_same {l : List Vx} {x : Vx} (h : x ∉ l) : tabF (l ++ [x]) x = (l.length : Int) + 1 := by rw [tab_in (by simp), numI_new h]
theorem tab_other {l : List Vx} {x y : Vx} (h : y ≠ x) : tabF (l ++ [x]) y = tabF l y := by
  by_cases hy : y ∈ l
  · rw [tab_in hy, tab_in (by simp [hy]), numI_pre hy]
  · rw [tab_out hy, tab_out (by simp [hy, h])]
noncomputable def tabS (l : List Vx) (i : Nat) : Value := .int .i64 (tabF l (startV (i : Int)))
noncomputable def tabE (l : List Vx) (i : Nat) : Value := .int .i64 (tabF l (envV (i : Int)))
noncomputable def tabY (T : Nat) (l : List Vx) (i : Nat) : Value := .int .i64 (tabF l (sysV ((i / T : Nat) : Int) ((i % T : Nat) : Int)))
def atIts (lo A T1 T2 T3 T : Nat) (s ow nx : SL) (l : List Vx) (f1 f2 f3 : Nat → Value) (os : List Int) (vs : List Value) (ls : List (List Int)) : List Itm :=
  [itBox A #[ow.v, nx.v, s.v] 38, itOwn lo 57 3 s (vxs l), itRow T1 3 T f1, itRow T2 3 T f2, itRow T3 3 (T * T) f3, itOwn lo 3 1 ow (ints os), itOwn lo 32 1 nx vs, itRows lo vs ls]
noncomputable def bIts (lo A T1 T2 T3 T : Nat) (s ow nx : SL) (l : List Vx) (os : List Int) (vs : List Value) (ls : List (List Int)) : List Itm :=
  atIts lo A T1 T2 T3 T s ow nx l (tabS l) (tabE l) (tabY T l) os vs ls
theorem start_ne {l : List Vx} {p : Int} : tabE (l ++ [startV p]) = tabE l ∧ ∀ T, tabY T (l ++ [startV p]) = tabY T l :=
  ⟨funext fun i => by unfold tabE; rw [tab_other (by simp [envV, startV])], fun T => funext fun i => by unfold tabY; rw [tab_other (by simp [sysV, startV])]⟩
theorem env_ne {l : List Vx} {p : Int} : tabS (l ++ [envV p]) = tabS l ∧ ∀ T, tabY T (l ++ [envV p]) = tabY T l :=
  ⟨funext fun i => by unfold tabS; rw [tab_other (by simp [envV, startV])], fun T => funext fun i => by unfold tabY; rw [tab_other (by simp [sysV, envV])]⟩
theorem sys_ne {l : List Vx} {s p : Int} : tabS (l ++ [sysV s p]) = tabS l ∧ tabE (l ++ [sysV s p]) = tabE l :=
  ⟨funext fun i => by unfold tabS; rw [tab_other (by simp [sysV, startV])], funext fun i => by unfold tabE; rw [tab_other (by simp [sysV, envV])]⟩
section
variable {lo A T1 T2 T3 T : Nat} {s ow nx : SL} {l : List Vx} {os : List Int} {vs : List Value} {ls : List (List Int)} {w w1 w6 : World} {N XB LB : Itm} {gg cap : Nat} {f1 f2 f3 : Nat → Value} {x : Vx}
/- the row of vertices grows by one, and its box says so -/
theorem at_grow (h : Sep lo w (N :: XB :: LB :: atIts lo A T1 T2 T3 T s ow nx l f1 f2 f3 os vs ls)) (hb : Below w.heap.size w w1) (hg : w1.grownBy w6 s.v.ownBlock) (hat : s.v.ownBlock = some gg ∨ gg = w1.heap.size)
    (hown : w6.ownsRow lo 57 3 (.slice (some ⟨gg, 0, none⟩) (s.n + 1) cap) (s.n + 1) (vxs (l ++ [x]))) :
    Sep lo (w6.setCell ⟨A, 2, none⟩ (.slice (some ⟨gg, 0, none⟩) (s.n + 1) cap)) (N :: XB :: LB :: atIts lo A T1 T2 T3 T ⟨some ⟨gg, 0, none⟩, s.n + 1, cap⟩ ow nx (l ++ [x]) f1 f2 f3 os vs ls) := by
  have h1 : Sep lo w (itOwn lo 57 3 s (vxs l) :: [N, XB, LB, itBox A #[ow.v, nx.v, s.v] 38, itRow T1 3 T f1, itRow T2 3 T f2, itRow T3 3 (T * T) f3, itOwn lo 3 1 ow (ints os), itOwn lo 32 1 nx vs, itRows lo vs ls]) := h.foc 4 (by simp [atIts])
  have h2 := h1.grow hb hg hat hown
  have h3 := Sep.unf (X := N :: XB :: LB :: atIts lo A T1 T2 T3 T s ow nx l f1 f2 f3 os vs ls) 4 (by simp [atIts]) h2
  have h4 : Sep lo w6 (itBox A #[ow.v, nx.v, s.v] 38 :: [N, XB, LB, itOwn lo 57 3 ⟨some ⟨gg, 0, none⟩, s.n + 1, cap⟩ (vxs (l ++ [x])), itRow T1 3 T f1, itRow T2 3 T f2, itRow T3 3 (T * T) f3, itOwn lo 3 1 ow (ints os), itOwn lo 32 1 nx vs, itRows lo vs ls]) := h3.foc 3 (by simp [atIts])
  have h5 := h4.setBox (j := 2) (.slice (some ⟨gg, 0, none⟩) (s.n + 1) cap)
  exact Sep.unf (X := N :: XB :: LB :: atIts lo A T1 T2 T3 T ⟨some ⟨gg, 0, none⟩, s.n + 1, cap⟩ ow nx (l ++ [x]) f1 f2 f3 os vs ls) 3 (by simp [atIts]) h5
theorem t1_set (h : Sep lo w (N :: XB :: LB :: atIts lo A T1 T2 T3 T s ow nx (l ++ [startV x.2.2]) (tabS l) (tabE l) (tabY T l) os vs ls)) {p : Nat} (hp : x.2.2 = (p : Int)) (hx : startV x.2.2 ∉ l) :
    Sep lo (w.setCell ⟨T1, p, none⟩ (.int .i64 ((l.length : Int) + 1))) (N :: XB :: LB :: bIts lo A T1 T2 T3 T s ow nx (l ++ [startV x.2.2]) os vs ls) := by
  unfold bIts
  rw [start_ne.1, start_ne.2]
  have h1 : Sep lo w (itRow T1 3 T (tabS l) :: [N, XB, LB, itBox A #[ow.v, nx.v, s.v] 38, itOwn lo 57 3 s (vxs (l ++ [startV x.2.2])), itRow T2 3 T (tabE l), itRow T3 3 (T * T) (tabY T l), itOwn lo 3 1 ow (ints os), itOwn lo 32 1 nx vs, itRows lo vs ls]) := h.foc 5 (by simp [atIts])
  have h2 := h1.setRow (j := p) (f' := tabS (l ++ [startV x.2.2])) (.int .i64 ((l.length : Int) + 1)) (fun i _ => by
    by_cases e : i = p
    · subst e; rw [if_pos rfl]; unfold tabS; rw [← hp, tab_same hx]
    · rw [if_neg e]; unfold tabS; rw [tab_other (by simp [startV, hp]; omega)])
  exact Sep.unf (X := N :: XB :: LB :: atIts lo A T1 T2 T3 T s ow nx (l ++ [startV x.2.2]) (tabS l) (tabE l) (tabY T l) os vs ls) 5 (by simp [atIts]) h2
theorem t2_set (h : Sep lo w (N :: XB :: LB :: atIts lo A T1 T2 T3 T s ow nx (l ++ [envV x.2.1]) (tabS l) (tabE l) (tabY T l) os vs ls)) {p : Nat} (hp : x.2.1 = (p : Int)) (hx : envV x.2.1 ∉ l) :
    Sep lo (w.setCell ⟨T2, p, none⟩ (.int .i64 ((l.length : Int) + 1))) (N :: XB :: LB :: bIts lo A T1 T2 T3 T s ow nx (l ++ [envV x.2.1]) os vs ls) := by
  unfold bIts
  rw [env_ne.1, env_ne.2]
  have h1 : Sep lo w (itRow T2 3 T (tabE l) :: [N, XB, LB, itBox A #[ow.v, nx.v, s.v] 38, itOwn lo 57 3 s (vxs (l ++ [envV x.2.1])), itRow T1 3 T (tabS l), itRow T3 3 (T * T) (tabY T l), itOwn lo 3 1 ow (ints os), itOwn lo 32 1 nx vs, itRows lo vs ls]) := h.foc 6 (by simp [atIts])
  have h2 := h1.setRow (j := p) (f' := tabE (l ++ [envV x.2.1])) (.int .i64 ((l.length : Int) + 1)) (fun i _ => by
    by_cases e : i = p
    · subst e; rw [if_pos rfl]; unfold tabE; rw [← hp, tab_same hx]
    · rw [if_neg e]; unfold tabE; rw [tab_other (by simp [envV, hp]; omega)])
  exact Sep.unf (X := N :: XB :: LB :: atIts lo A T1 T2 T3 T s ow nx (l ++ [envV x.2.1]) (tabS l) (tabE l) (tabY T l) os vs ls) 6 (by simp [atIts]) h2
theorem t3_set (h : Sep lo w (N :: XB :: LB :: atIts lo A T1 T2 T3 T s ow nx (l ++ [sysV x.2.1 x.2.2]) (tabS l) (tabE l) (tabY T l) os vs ls)) {q p : Nat} (hq : x.2.1 = (q : Int)) (hp : x.2.2 = (p : Int)) (hpT : p < T) (hx : sysV x.2.1 x.2.2 ∉ l) :
    Sep lo (w.setCell ⟨T3, q * T + p, none⟩ (.int .i64 ((l.length : Int) + 1))) (N :: XB :: LB :: bIts lo A T1 T2 T3 T s ow nx (l ++ [sysV x.2.1 x.2.2]) os vs ls) := by
  unfold bIts
  rw [sys_ne.1, sys_ne.2]
  have hT : 0 < T := by omega
  have hdiv : (q * T + p) / T = q := by rw [Nat.mul_comm, Nat.mul_add_div hT, Nat.div_eq_of_lt hpT, Nat.add_zero]
  have hmod : (q * T + p) % T = p := by rw [Nat.mul_comm, Nat.mul_add_mod, Nat.mod_eq_of_lt hpT]
  have h1 : Sep lo w (itRow T3 3 (T * T) (tabY T l) :: [N, XB, LB, itBox A #[ow.v, nx.v, s.v] 38, itOwn lo 57 3 s (vxs (l ++ [sysV x.2.1 x.2.2])), itRow T1 3 T (tabS l), itRow T2 3 T (tabE l), itOwn lo 3 1 ow (ints os), itOwn lo 32 1 nx vs, itRows lo vs ls]) := h.foc 7 (by simp [atIts])
  have h2 := h1.setRow (j := q * T + p) (f' := tabY T (l ++ [sysV x.2.1 x.2.2])) (.int .i64 ((l.length : Int) + 1)) (fun i _ => by
    by_cases e : i = q * T + p
    · subst e; rw [if_pos rfl]; unfold tabY; rw [hdiv, hmod, ← hp, ← hq, tab_same hx]
    · rw [if_neg e]; unfold tabY; rw [tab_other]
      intro h3
      simp [sysV, hp, hq] at h3
      apply e
      have h4 := Nat.div_add_mod i T
      rw [Nat.mul_comm] at h4
      have e1 : i / T = q := by omega
      have e2 : i % T = p := by omega
      rw [e1, e2] at h4; omega)
  exact Sep.unf (X := N :: XB :: LB :: atIts lo A T1 T2 T3 T s ow nx (l ++ [sysV x.2.1 x.2.2]) (tabS l) (tabE l) (tabY T l) os vs ls) 7 (by simp [atIts]) h2
end
theorem tab_root (T : Nat) : tabS [rootV] = (fun _ => Value.int .i64 0) ∧ tabE [rootV] = (fun _ => Value.int .i64 0) ∧ tabY T [rootV] = (fun _ => Value.int .i64 0) :=
  ⟨funext fun i => by unfold tabS; rw [tab_out (by simp [startV, rootV])], funext fun i => by unfold tabE; rw [tab_out (by simp [envV, rootV])], funext fun i => by unfold tabY; rw [tab_out (by simp [sysV, rootV])]⟩
abbrev W5 (w : World) (t : Nat) : World := ((((w.alloc (.cells (madeCells #[.int .i64 0] t) 3)).alloc (.cells (madeCells #[.int .i64 0] t) 3)).alloc (.cells (madeCells #[.int .i64 0] (t * t)) 3)).alloc (.cells #[.int .i64 1, .int .i64 0, .int .i64 0] 57)).alloc (.cells #[.slice none 0 0, .slice none 0 0, .slice (some ⟨w.heap.size + 1 + 1 + 1, 0, none⟩) 1 1] 38)
theorem at_start (w : World) (t : Nat) : Sep w.heap.size (W5 w t) (bIts w.heap.size (w.heap.size + 1 + 1 + 1 + 1) w.heap.size (w.heap.size + 1) (w.heap.size + 1 + 1) t ⟨some ⟨w.heap.size + 1 + 1 + 1, 0, none⟩, 1, 1⟩ ⟨none, 0, 0⟩ ⟨none, 0, 0⟩ [rootV] [] [] []) ∧ Below w.heap.size w (W5 w t) := by
  unfold bIts
  rw [(tab_root t).1, (tab_root t).2.1, (tab_root t).2.2]
  have z1 := World.size_alloc w (.cells (madeCells #[.int .i64 0] t) 3)
  have z2 := (World.size_alloc (w.alloc (.cells (madeCells #[.int .i64 0] t) 3)) (.cells (madeCells #[.int .i64 0] t) 3)).trans (by rw [z1])
  have z3 := (World.size_alloc ((w.alloc (.cells (madeCells #[.int .i64 0] t) 3)).alloc (.cells (madeCells #[.int .i64 0] t) 3)) (.cells (madeCells #[.int .i64 0] (t * t)) 3)).trans (by rw [z2])
  have z4 := (World.size_alloc (((w.alloc (.cells (madeCells #[.int .i64 0] t) 3)).alloc (.cells (madeCells #[.int .i64 0] t) 3)).alloc (.cells (madeCells #[.int .i64 0] (t * t)) 3)) (.cells #[.int .i64 1, .int .i64 0, .int .i64 0] 57)).trans (by rw [z3])
  have h1 := World.rowIs_made w (.int .i64 0) t 3
  have h2 := World.rowIs_made (w.alloc (.cells (madeCells #[.int .i64 0] t) 3)) (.int .i64 0) t 3
  rw [z1] at h2
  have h3 := World.rowIs_made ((w.alloc (.cells (madeCells #[.int .i64 0] t) 3)).alloc (.cells (madeCells #[.int .i64 0] t) 3)) (.int .i64 0) (t * t) 3
  rw [z2] at h3
  have h4 := heap_alloc_new (((w.alloc (.cells (madeCells #[.int .i64 0] t) 3)).alloc (.cells (madeCells #[.int .i64 0] t) 3)).alloc (.cells (madeCells #[.int .i64 0] (t * t)) 3)) (.cells #[.int .i64 1, .int .i64 0, .int .i64 0] 57)
  rw [z3] at h4
  have h5 := heap_alloc_new ((((w.alloc (.cells (madeCells #[.int .i64 0] t) 3)).alloc (.cells (madeCells #[.int .i64 0] t) 3)).alloc (.cells (madeCells #[.int .i64 0] (t * t)) 3)).alloc (.cells #[.int .i64 1, .int .i64 0, .int .i64 0] 57)) (.cells #[.slice none 0 0, .slice none 0 0, .slice (some ⟨w.heap.size + 1 + 1 + 1, 0, none⟩) 1 1] 38)
  rw [z4] at h5
  have z5 := (World.size_alloc ((((w.alloc (.cells (madeCells #[.int .i64 0] t) 3)).alloc (.cells (madeCells #[.int .i64 0] t) 3)).alloc (.cells (madeCells #[.int .i64 0] (t * t)) 3)).alloc (.cells #[.int .i64 1, .int .i64 0, .int .i64 0] 57)) (.cells #[.slice none 0 0, .slice none 0 0, .slice (some ⟨w.heap.size + 1 + 1 + 1, 0, none⟩) 1 1] 38)).trans (by rw [z4])
  have k1 := ((h1.alloc (.cells (madeCells #[.int .i64 0] t) 3)).alloc (.cells (madeCells #[.int .i64 0] (t * t)) 3)).alloc (.cells #[.int .i64 1, .int .i64 0, .int .i64 0] 57)
  have k2 := (h2.alloc (.cells (madeCells #[.int .i64 0] (t * t)) 3)).alloc (.cells #[.int .i64 1, .int .i64 0, .int .i64 0] 57)
  have k3 := h3.alloc (.cells #[.int .i64 1, .int .i64 0, .int .i64 0] 57)
  have k4 := (Below.heap_alloc _ (.cells #[.slice none 0 0, .slice none 0 0, .slice (some ⟨w.heap.size + 1 + 1 + 1, 0, none⟩) 1 1] 38) (w.heap.size + 1 + 1 + 1) (by rw [z4]; omega)).trans h4
  have hb : Below w.heap.size w (W5 w t) := (((((Below.refl _ _).alloc (Nat.le_refl _) _).alloc (by rw [z1]; omega) _).alloc (by rw [z2]; omega) _).alloc (by rw [z3]; omega) _).alloc (by rw [z4]; omega) _
  refine ⟨⟨?_, ?_, ?_⟩, hb⟩
  · intro i hi
    unfold atIts at hi
    simp only [List.mem_cons, List.not_mem_nil, or_false] at hi
    rcases hi with rfl | rfl | rfl | rfl | rfl | rfl | rfl | rfl
    · exact h5
    · refine ⟨rfl, .inr ⟨_, _, _, rfl, by omega, k4, Nat.le_refl _, by show 1 ≤ maxLen; unfold maxLen; omega, rfl, rfl⟩⟩
    · exact k1.alloc _
    · exact k2.alloc _
    · exact k3.alloc _
    · exact World.ownsRow_nil _ _ _ _
    · exact World.ownsRow_nil _ _ _ _
    · exact ⟨rfl, fun j v l h => by simp at h⟩
  · show ([w.heap.size + 1 + 1 + 1 + 1, w.heap.size + 1 + 1 + 1, w.heap.size, w.heap.size + 1, w.heap.size + 1 + 1] : List Nat).Nodup
    simp
    omega
  · intro k hk
    have hk2 : k ∈ ([w.heap.size + 1 + 1 + 1 + 1, w.heap.size + 1 + 1 + 1, w.heap.size, w.heap.size + 1, w.heap.size + 1 + 1] : List Nat) := hk
    simp at hk2
    unfold W5
    rw [z5]
    omega
section
variable {lo A T1 T2 T3 T : Nat} {s ow nx : SL} {l : List Vx} {os : List Int} {vs : List Value} {ls : List (List Int)} {w w' : World} {N XB LB : Itm} {f1 f2 f3 : Nat → Value}
theorem its_box (h : Sep lo w (N :: XB :: LB :: atIts lo A T1 T2 T3 T s ow nx l f1 f2 f3 os vs ls)) : w.heap[A]? = some (.cells #[ow.v, nx.v, s.v] 38 (0, 0)) := h.all (itBox A #[ow.v, nx.v, s.v] 38) (List.mem_of_getElem? (i := 3) rfl)
theorem its_at (h : Sep lo w (N :: XB :: LB :: atIts lo A T1 T2 T3 T s ow nx l f1 f2 f3 os vs ls)) : w.ownsRow lo 57 3 s.v s.n (vxs l) := h.all (itOwn lo 57 3 s (vxs l)) (List.mem_of_getElem? (i := 4) rfl)
theorem its_1 (h : Sep lo w (N :: XB :: LB :: atIts lo A T1 T2 T3 T s ow nx l f1 f2 f3 os vs ls)) : w.rowIs T1 3 T f1 := h.all (itRow T1 3 T f1) (List.mem_of_getElem? (i := 5) rfl)
theorem its_2 (h : Sep lo w (N :: XB :: LB :: atIts lo A T1 T2 T3 T s ow nx l f1 f2 f3 os vs ls)) : w.rowIs T2 3 T f2 := h.all (itRow T2 3 T f2) (List.mem_of_getElem? (i := 6) rfl)
theorem its_3 (h : Sep lo w (N :: XB :: LB :: atIts lo A T1 T2 T3 T s ow nx l f1 f2 f3 os vs ls)) : w.rowIs T3 3 (T * T) f3 := h.all (itRow T3 3 (T * T) f3) (List.mem_of_getElem? (i := 7) rfl)
theorem its_far (h : Sep lo w (N :: XB :: LB :: atIts lo A T1 T2 T3 T s ow nx l f1 f2 f3 os vs ls)) {k : Nat} (hk : s.v.ownBlock = some k) : k ≠ A ∧ k ≠ T1 ∧ k ≠ T2 ∧ k ≠ T3 ∧ lo ≤ k ∧ k < w.heap.size := by
  have h1 : Sep lo w (itOwn lo 57 3 s (vxs l) :: [N, XB, LB, itBox A #[ow.v, nx.v, s.v] 38, itRow T1 3 T f1, itRow T2 3 T f2, itRow T3 3 (T * T) f3, itOwn lo 3 1 ow (ints os), itOwn lo 32 1 nx vs, itRows lo vs ls]) := h.foc 4 (by simp [atIts])
  have hm : k ∈ (itOwn lo 57 3 s (vxs l)).own := own_mem.2 hk
  have far : ∀ (j : Itm) (b : Nat), j ∈ [N, XB, LB, itBox A #[ow.v, nx.v, s.v] 38, itRow T1 3 T f1, itRow T2 3 T f2, itRow T3 3 (T * T) f3, itOwn lo 3 1 ow (ints os), itOwn lo 32 1 nx vs, itRows lo vs ls] → b ∈ j.own → k ≠ b := fun j b hj hb e => h1.far hj hb (e ▸ hm)
  have hl := h1.low k (by rw [owns_cons]; exact List.mem_append_left _ hm)
  exact ⟨far _ A (List.mem_of_getElem? (i := 3) rfl) (by simp [itBox]), far _ T1 (List.mem_of_getElem? (i := 4) rfl) (by simp [itRow]), far _ T2 (List.mem_of_getElem? (i := 5) rfl) (by simp [itRow]), far _ T3 (List.mem_of_getElem? (i := 6) rfl) (by simp [itRow]), hl.1, hl.2⟩
theorem its_new {X : List Itm} (h : Sep lo w (XB :: X)) (hb : Below w.heap.size w w') (hlo : lo ≤ w.heap.size) {O : Option Addr} {n c : Nat} {xs : List Int} (hr : w'.ownsRow w.heap.size 3 1 (.slice O n c) n (ints xs)) : Sep lo w' (itOwn lo 3 1 ⟨none, 0, 0⟩ (ints []) :: XB :: itOwn lo 3 1 ⟨O, n, c⟩ (ints xs) :: X) := by
  have hr2 : w'.ownsRow lo 3 1 (.slice O n c) n (ints xs) := ⟨hr.1, by rcases hr.2 with h1 | ⟨g, cap, cur, e, h1, r⟩; exact .inl h1; exact .inr ⟨g, cap, cur, e, by omega, r⟩⟩
  have h1 : Sep lo w' (itOwn lo 3 1 ⟨O, n, c⟩ (ints xs) :: XB :: X) := h.new hb hlo hr2 (by
    show (SL.own ⟨O, n, c⟩).Nodup
    rcases own_one ⟨O, n, c⟩ with e | ⟨g, e⟩ <;> rw [e] <;> simp) (fun k hk => hr.lt k (own_mem.1 hk))
  have h2 := h1.perm (List.Perm.swap XB _ X)
  exact h2.new (Below.refl _ _) (by have := hb.size; omega) (World.ownsRow_nil _ _ _ _) (by show (SL.own ⟨none, 0, 0⟩).Nodup; simp [SL.own]) (fun k hk => by have hk2 : k ∈ SL.own ⟨none, 0, 0⟩ := hk; simp [SL.own] at hk2)
end
theorem addj_ok {m : MT} {k j : Nat} {xs : List Int} {f : Int → Vx} (hT : totN m ≤ 24) (h : ∀ p ∈ xs, OkV (totN m) (f p)) : (addL (goV m k).1 ((xs.take j).map f)).Nodup ∧ (addL (goV m k).1 ((xs.take j).map f)).length ≤ 625 := by
  have hn : (addL (goV m k).1 ((xs.take j).map f)).Nodup := addL_nodup (go_ok m k).nd
  refine ⟨hn, len_ok hT hn (fun y hy => ?_)⟩
  rcases addL_mem.1 hy with h1 | h1
  · exact (go_ok m k).ok y h1
  · obtain ⟨p, hp, rfl⟩ := List.mem_map.1 h1
    exact h p (List.mem_of_mem_take hp)
theorem addj_succ {l : List Vx} {xs : List Int} {f : Int → Vx} {j : Nat} {p : Int} (h : xs[j]? = some p) : addL l ((xs.take (j + 1)).map f) = addV (addL l ((xs.take j).map f)) (f p) := by
  rw [List.take_add_one, h]
  simp only [Option.toList_some, List.map_append, List.map_cons, List.map_nil]
  rw [addL_snoc]
theorem addj_mem {l : List Vx} {xs : List Int} {f : Int → Vx} {j : Nat} {p : Int} (h : p ∈ xs.take j) : f p ∈ addL l ((xs.take j).map f) := addL_mem.2 (.inr (List.mem_map.2 ⟨p, h, rfl⟩))
def nextJ (l : List Vx) (f : Int → Vx) (xs : List Int) (j : Nat) : List Int := (xs.take j).map (fun p => numI (addL l ((xs.take j).map f)) (f p))
theorem next_succ {l : List Vx} {xs : List Int} {f : Int → Vx} {j : Nat} {p : Int} (h : xs[j]? = some p) : nextJ l f xs (j + 1) = nextJ l f xs j ++ [numI (addL l ((xs.take (j + 1)).map f)) (f p)] := by
  unfold nextJ
  rw [addj_succ h]
  conv => lhs; rw [List.take_add_one, h]
  simp only [Option.toList_some, List.map_append, List.map_cons, List.map_nil]
  congr 1
  refine List.map_congr_left fun y hy => ?_
  rw [numI_addV (addj_mem hy)]
theorem next_all {l : List Vx} {xs : List Int} {f : Int → Vx} : nextJ l f xs xs.length = (xs.map f).map (numI (addL l (xs.map f))) := by
  unfold nextJ
  rw [List.take_length, List.map_map]; rfl
section
variable {lo A T1 T2 T3 T : Nat} {s ow nx sr : SL} {l : List Vx} {os : List Int} {vs : List Value} {ls : List (List Int)} {w w1 w6 : World} {N : Itm} {gg cap : Nat} {f1 f2 f3 : Nat → Value} {q : Int} {srt : List Int}
theorem ow_grow (h : Sep lo w (N :: atIts lo A T1 T2 T3 T s ow nx l f1 f2 f3 os vs ls)) (hb : Below w.heap.size w w1) (hg : w1.grownBy w6 ow.v.ownBlock) (hat : ow.v.ownBlock = some gg ∨ gg = w1.heap.size)
    (hown : w6.ownsRow lo 3 1 (.slice (some ⟨gg, 0, none⟩) (ow.n + 1) cap) (ow.n + 1) (ints (os ++ [q]))) :
    Sep lo (w6.setCell ⟨A, 0, none⟩ (.slice (some ⟨gg, 0, none⟩) (ow.n + 1) cap)) (N :: atIts lo A T1 T2 T3 T s ⟨some ⟨gg, 0, none⟩, ow.n + 1, cap⟩ nx l f1 f2 f3 (os ++ [q]) vs ls) := by
  have h1 : Sep lo w (itOwn lo 3 1 ow (ints os) :: [N, itBox A #[ow.v, nx.v, s.v] 38, itOwn lo 57 3 s (vxs l), itRow T1 3 T f1, itRow T2 3 T f2, itRow T3 3 (T * T) f3, itOwn lo 32 1 nx vs, itRows lo vs ls]) := h.foc 6 (by simp [atIts])
  have h2 := h1.grow hb hg hat hown
  have h3 := Sep.unf (X := N :: atIts lo A T1 T2 T3 T s ow nx l f1 f2 f3 os vs ls) 6 (by simp [atIts]) h2
  have h4 : Sep lo w6 (itBox A #[ow.v, nx.v, s.v] 38 :: [N, itOwn lo 57 3 s (vxs l), itRow T1 3 T f1, itRow T2 3 T f2, itRow T3 3 (T * T) f3, itOwn lo 3 1 ⟨some ⟨gg, 0, none⟩, ow.n + 1, cap⟩ (ints (os ++ [q])), itOwn lo 32 1 nx vs, itRows lo vs ls]) := h3.foc 1 (by simp [atIts])
  have h5 := h4.setBox (j := 0) (.slice (some ⟨gg, 0, none⟩) (ow.n + 1) cap)
  exact Sep.unf (X := N :: atIts lo A T1 T2 T3 T s ⟨some ⟨gg, 0, none⟩, ow.n + 1, cap⟩ nx l f1 f2 f3 (os ++ [q]) vs ls) 1 (by simp [atIts]) h5
theorem nx_grow (h : Sep lo w (itOwn lo 3 1 sr (ints srt) :: atIts lo A T1 T2 T3 T s ow nx l f1 f2 f3 os vs ls)) (hb : Below w.heap.size w w1) (hg : w1.grownBy w6 nx.v.ownBlock) (hat : nx.v.ownBlock = some gg ∨ gg = w1.heap.size)
    (hown : w6.ownsRow lo 32 1 (.slice (some ⟨gg, 0, none⟩) (nx.n + 1) cap) (nx.n + 1) (vs ++ [sr.v])) :
    Sep lo (w6.setCell ⟨A, 1, none⟩ (.slice (some ⟨gg, 0, none⟩) (nx.n + 1) cap)) (atIts lo A T1 T2 T3 T s ow ⟨some ⟨gg, 0, none⟩, nx.n + 1, cap⟩ l f1 f2 f3 os (vs ++ [sr.v]) (ls ++ [srt])) := by
  have h1 : Sep lo w (itOwn lo 32 1 nx vs :: [itOwn lo 3 1 sr (ints srt), itBox A #[ow.v, nx.v, s.v] 38, itOwn lo 57 3 s (vxs l), itRow T1 3 T f1, itRow T2 3 T f2, itRow T3 3 (T * T) f3, itOwn lo 3 1 ow (ints os), itRows lo vs ls]) := h.foc 7 (by simp [atIts])
  have h2 := h1.grow hb hg hat hown
  have h3 : Sep lo w6 (itOwn lo 3 1 sr (ints srt) :: itBox A #[ow.v, nx.v, s.v] 38 :: itOwn lo 57 3 s (vxs l) :: itRow T1 3 T f1 :: itRow T2 3 T f2 :: itRow T3 3 (T * T) f3 :: itOwn lo 3 1 ow (ints os) :: itOwn lo 32 1 ⟨some ⟨gg, 0, none⟩, nx.n + 1, cap⟩ (vs ++ [sr.v]) :: [itRows lo vs ls]) := Sep.unf (X := itOwn lo 3 1 sr (ints srt) :: atIts lo A T1 T2 T3 T s ow nx l f1 f2 f3 os vs ls) 7 (by simp [atIts]) h2
  have h4 : Sep lo w6 (itBox A #[ow.v, nx.v, s.v] 38 :: [itOwn lo 3 1 sr (ints srt), itOwn lo 57 3 s (vxs l), itRow T1 3 T f1, itRow T2 3 T f2, itRow T3 3 (T * T) f3, itOwn lo 3 1 ow (ints os), itOwn lo 32 1 ⟨some ⟨gg, 0, none⟩, nx.n + 1, cap⟩ (vs ++ [sr.v]), itRows lo vs ls]) := h3.foc 1 (by simp)
  have h5 := h4.setBox (j := 1) (.slice (some ⟨gg, 0, none⟩) (nx.n + 1) cap)
  have h6 := h5.foc 8 (by simp)
  have h7 : Sep lo (w6.setCell ⟨A, 1, none⟩ (.slice (some ⟨gg, 0, none⟩) (nx.n + 1) cap)) (itRows lo vs ls :: itBox A #[ow.v, .slice (some ⟨gg, 0, none⟩) (nx.n + 1) cap, s.v] 38 :: [itOwn lo 3 1 sr (ints srt), itOwn lo 57 3 s (vxs l), itRow T1 3 T f1, itRow T2 3 T f2, itRow T3 3 (T * T) f3, itOwn lo 3 1 ow (ints os), itOwn lo 32 1 ⟨some ⟨gg, 0, none⟩, nx.n + 1, cap⟩ (vs ++ [sr.v])]) := h6
  have h8 : Sep lo (w6.setCell ⟨A, 1, none⟩ (.slice (some ⟨gg, 0, none⟩) (nx.n + 1) cap)) (itOwn lo 3 1 sr (ints srt) :: itRows lo vs ls :: itBox A #[ow.v, .slice (some ⟨gg, 0, none⟩) (nx.n + 1) cap, s.v] 38 :: [itOwn lo 57 3 s (vxs l), itRow T1 3 T f1, itRow T2 3 T f2, itRow T3 3 (T * T) f3, itOwn lo 3 1 ow (ints os), itOwn lo 32 1 ⟨some ⟨gg, 0, none⟩, nx.n + 1, cap⟩ (vs ++ [sr.v])]) := h7.foc 2 (by simp)
  have h9 := h8.putRow
  exact h9.perm (List.perm_append_comm (l₁ := [itRows lo (vs ++ [sr.v]) (ls ++ [srt])]))
theorem drop2 {X Y Z : Itm} {R : List Itm} (h : Sep lo w (X :: Y :: Z :: R)) : Sep lo w (X :: R) := ((h.perm (List.Perm.swap _ _ _)).tail.perm (List.Perm.swap _ _ _)).tail
theorem new_head {X : List Itm} {O : Option Addr} {n c : Nat} {xs : List Int} (h : Sep lo w (N :: X)) (hb : Below w.heap.size w w1) (hlo : lo ≤ w.heap.size) (hr : w1.ownsRow w.heap.size 3 1 (.slice O n c) n (ints xs)) : Sep lo w1 (itOwn lo 3 1 ⟨O, n, c⟩ (ints xs) :: X) := by
  have hr2 : w1.ownsRow lo 3 1 (.slice O n c) n (ints xs) := ⟨hr.1, by rcases hr.2 with h1 | ⟨g, cap, cur, e, h1, r⟩; exact .inl h1; exact .inr ⟨g, cap, cur, e, by omega, r⟩⟩
  exact h.tail.new hb hlo hr2 (by
    show (SL.own ⟨O, n, c⟩).Nodup
    rcases own_one ⟨O, n, c⟩ with e | ⟨g, e⟩ <;> rw [e] <;> simp) (fun k hk => hr.lt k (own_mem.1 hk))
end
theorem Sep.ne {lo : Nat} {w : World} {X : List Itm} (h : Sep lo w X) (i j : Nat) {a b : Itm} (hij : i ≠ j) (hi : X[i]? = some a) (hj : X[j]? = some b) {k k2 : Nat} (hk : k ∈ a.own) (hk2 : k2 ∈ b.own) : k ≠ k2 := fun e => by
  obtain ⟨h1, h2⟩ := List.getElem?_eq_some_iff.1 hi
  have h3 := h.foc i h1
  rw [h2] at h3
  exact h3.far (List.mem_eraseIdx_iff_getElem?.2 ⟨j, fun e => hij e.symm, hj⟩) hk2 (e ▸ hk)
theorem Sep.lows {lo : Nat} {w : World} {X : List Itm} (h : Sep lo w X) (i : Nat) {a : Itm} (hi : X[i]? = some a) {k : Nat} (hk : k ∈ a.own) : lo ≤ k ∧ k < w.heap.size := h.low k (owns_mem.2 ⟨a, List.mem_of_getElem? hi, hk⟩)
end Go.Proofs.YtbppdalfcldodaaGreat
set_option maxRecDepth 100000
namespace Go.Proofs.YtbppdalfcldodaaGreat
open Go.RowKit Ex
set_option linter.unusedSimpArgs false
set_option linter.unusedVariables false
section
variable {a : Act} {w : World} {K : Act → World → Prop} {Q : Exit → Act → World → Prop} {d ty : Nat} {pos : String} {af : Array Edge}
theorem sb_field0 {t b : Nat} (he : a.eval (.tmp t) = .pointer (some ⟨b, 0, none⟩)) (hK : K (a.put (some d) (.pointer (some ⟨b, 0, none⟩))) w) : Oper.wp Tryz.prog ⟨some d, .fieldAddr 38 (.tmp t) 0, ty, pos, af, none⟩ a w K Q := by
  have he' : a.tmps[t]?.getD undef = .pointer (some ⟨b, 0, none⟩) := by simpa [Act.eval] using he
  refine wp_val ?_ hK
  simp only [execOp]
  go_simp
theorem sb_field1 {t b : Nat} (he : a.eval (.tmp t) = .pointer (some ⟨b, 0, none⟩)) (hK : K (a.put (some d) (.pointer (some ⟨b, 1, none⟩))) w) : Oper.wp Tryz.prog ⟨some d, .fieldAddr 35 (.tmp t) 1, ty, pos, af, none⟩ a w K Q := by
  have he' : a.tmps[t]?.getD undef = .pointer (some ⟨b, 0, none⟩) := by simpa [Act.eval] using he
  refine wp_val ?_ hK
  simp only [execOp]
  go_simp
theorem sb_load {t b i n c : Nat} {A : Option Addr} (he : a.eval (.tmp t) = .pointer (some ⟨b, i, none⟩)) (hc : w.cell? ⟨b, i, none⟩ = some (.slice A n c)) (hK : K (a.put (some d) (.slice A n c)) w) : Oper.wp Tryz.prog ⟨some d, .load 33 (.tmp t), ty, pos, af, none⟩ a w K Q := by
  have he' : a.tmps[t]?.getD undef = .pointer (some ⟨b, i, none⟩) := by simpa [Act.eval] using he
  refine wp_val ?_ hK
  simp only [execOp]
  go_simp
theorem sb_one {t n c : Nat} {A : Option Addr} (he : a.eval (.tmp t) = .slice A n c) (hK : K (a.put (some d) (.slice (some ⟨w.heap.size, 0, none⟩) 1 1)) (w.alloc (.cells #[.slice A n c] 32))) : Oper.wp Tryz.prog ⟨some d, .buildSlice 33 1 #[(0, .tmp t)], ty, pos, af, none⟩ a w K Q := by
  have he' : a.tmps[t]?.getD undef = .slice A n c := by simpa [Act.eval] using he
  refine wp_val ?_ hK
  simp only [execOp]
  go_simp
theorem sb_call {t : Nat} {u : Value} {P : Ending → World → Prop} (he : a.eval (.tmp t) = u) (hc : Calls Tryz.prog 47 #[u] w P) (hK : ∀ e w', P e w' → ∃ v, e = .returned v ∧ K (a.put (some d) v) w') : Oper.wp Tryz.prog ⟨some d, .call { callee := .value (.func 47), args := #[.tmp t], argTypes := #[32] }, ty, pos, af, none⟩ a w K Q := by
  have he' : a.tmps[t]?.getD undef = u := by simpa [Act.eval] using he
  unfold Oper.wp
  simp only [execOp]
  go_simp
  refine hc.mono ?_
  intro e w' hp
  obtain ⟨v, rfl, hk⟩ := hK e w' hp
  exact hk
theorem sb_store {t s b i : Nat} {u0 : Value} {A : Option Addr} {n c : Nat} (he : a.eval (.tmp t) = .pointer (some ⟨b, i, none⟩)) (hv : a.eval (.tmp s) = .slice A n c) (hc : w.cell? ⟨b, i, none⟩ = some u0) (hf : w.frozen? ⟨b, i, none⟩ = false) (hK : ∀ y, K (a.put none y) (w.setCell ⟨b, i, none⟩ (.slice A n c))) : Oper.wp Tryz.prog ⟨none, .store 33 (.tmp t) (.tmp s), ty, pos, af, none⟩ a w K Q := by
  have he' : a.tmps[t]?.getD undef = .pointer (some ⟨b, i, none⟩) := by simpa [Act.eval] using he
  have hv' : a.tmps[s]?.getD undef = .slice A n c := by simpa [Act.eval] using hv
  have hK' : K a (w.setCell ⟨b, i, none⟩ (.slice A n c)) := hK undef
  unfold Oper.wp
  simp only [execOp]
  go_simp
  exact hK'
end
def depsR (i : Nat) : List Nat := [[], [0], [1], [], [3], [4], [2, 5, 4], [], [7], [8, 6, 2, 4, 5]].getD i []
def dstR (i : Nat) : Nat := i + 197
theorem lt10 {i : Nat} (h : i < 10) : i = 0 ∨ i = 1 ∨ i = 2 ∨ i = 3 ∨ i = 4 ∨ i = 5 ∨ i = 6 ∨ i = 7 ∨ i = 8 ∨ i = 9 := by omega
structure RowIn where
  A : Nat
  T1 : Nat
  T2 : Nat
  T3 : Nat
  T : Nat
  lo : Nat
  s : SL
  ow : SL
  l : List Vx
  os : List Int
  vs : List Value
  ls : List (List Int)
  row : List Int
noncomputable def RowIn.its (r : RowIn) (nx : SL) (vs : List Value) (ls : List (List Int)) : List Itm := bIts r.lo r.A r.T1 r.T2 r.T3 r.T r.s r.ow nx r.l r.os vs ls
def SR (A : Nat) (nx nr : SL) (i : Nat) (v : Value) : Prop := (List.getD (α := Value → Prop) [
  fun v => v = .pointer (some ⟨A, 0, none⟩),
  fun v => v = .pointer (some ⟨A, 1, none⟩),
  fun v => v = nx.v,
  fun v => v = nr.v,
  fun _ => True, fun _ => True, fun _ => True,
  fun v => v = .pointer (some ⟨A, 0, none⟩),
  fun v => v = .pointer (some ⟨A, 1, none⟩)] i (fun _ => True)) v
/- stage by stage: what memory holds -/
noncomputable def MR (r : RowIn) (nx nr : SL) (w3 : World) (s : Nat) (v : Nat → Value) (w : World) : Prop := match s with
  | 0 => Sep r.lo w (itOwn r.lo 3 1 nr (ints r.row) :: r.its nx r.vs r.ls) ∧ Below r.lo w3 w
  | 1 => ∃ sr : SL, v 4 = sr.v ∧ Sep r.lo w (itOwn r.lo 3 1 sr (ints (insAll r.row)) :: r.its nx r.vs r.ls) ∧ Below r.lo w3 w
  | 2 => ∃ (sr : SL) (b : Nat) (w0 : World), v 4 = sr.v ∧ v 5 = .slice (some ⟨b, 0, none⟩) 1 1 ∧ w.heap[b]? = some (.cells #[sr.v] 32 (0, 0)) ∧ Sep r.lo w (itOwn r.lo 3 1 sr (ints (insAll r.row)) :: r.its nx r.vs r.ls) ∧ Below r.lo w3 w
  | 3 => ∃ (sr : SL) (gg cap : Nat), v 6 = .slice (some ⟨gg, 0, none⟩) (nx.n + 1) cap ∧ (∃ u, w.cell? ⟨r.A, 1, none⟩ = some u) ∧ w.frozen? ⟨r.A, 1, none⟩ = false ∧
      Sep r.lo (w.setCell ⟨r.A, 1, none⟩ (.slice (some ⟨gg, 0, none⟩) (nx.n + 1) cap)) (r.its ⟨some ⟨gg, 0, none⟩, nx.n + 1, cap⟩ (r.vs ++ [sr.v]) (r.ls ++ [insAll r.row])) ∧ Below r.lo w3 w
  | _ => ∃ (sr : SL) (gg cap : Nat), Sep r.lo w (r.its ⟨some ⟨gg, 0, none⟩, nx.n + 1, cap⟩ (r.vs ++ [sr.v]) (r.ls ++ [insAll r.row])) ∧ Below r.lo w3 w
set_option maxHeartbeats 4000000 in
theorem build_region {id : Nat} {ops : Array Oper} {Q : Exit → Act → World → Prop} {a0 : Act} {W w3 : World} {r : RowIn} {nx nr : SL}
    (hm : Tryz.prog.follows .mixedOrders = true) (hsz : ops.size = 10) (hac : ownAc ops = true) (hdep : ownDeps ops depsR = true)
    (o0 : ∃ ty pos af, ops[0]? = some ⟨some 197, .fieldAddr 38 (.tmp 9) 0, ty, pos, af, none⟩)
    (o1 : ∃ ty pos af, ops[1]? = some ⟨some 198, .fieldAddr 35 (.tmp 197) 1, ty, pos, af, none⟩)
    (o2 : ∃ ty pos af, ops[2]? = some ⟨some 199, .load 33 (.tmp 198), ty, pos, af, none⟩)
    (o3 : ∃ ty pos af, ops[3]? = some ⟨some 200, .move (.tmp 13), ty, pos, af, none⟩)
    (o4 : ∃ ty pos af, ops[4]? = some ⟨some 201, .call { callee := .value (.func 47), args := #[.tmp 200], argTypes := #[32] }, ty, pos, af, none⟩)
    (o5 : ∃ ty pos af, ops[5]? = some ⟨some 202, .buildSlice 33 1 #[(0, .tmp 201)], ty, pos, af, none⟩)
    (o6 : ∃ ty pos af, ops[6]? = some ⟨some 203, .call { callee := .builtin .append, args := #[.tmp 199, .tmp 202], argTypes := #[33, 33] }, ty, pos, af, none⟩)
    (o7 : ∃ ty pos af, ops[7]? = some ⟨some 204, .fieldAddr 38 (.tmp 9) 0, ty, pos, af, none⟩)
    (o8 : ∃ ty pos af, ops[8]? = some ⟨some 205, .fieldAddr 35 (.tmp 204) 1, ty, pos, af, none⟩)
    (o9 : ∃ ty pos af, ops[9]? = some ⟨none, .store 33 (.tmp 205) (.tmp 203), ty, pos, af, none⟩)
    (hf : a0.tmps.size = 207) (h9 : a0.eval (.tmp 9) = .pointer (some ⟨r.A, 0, none⟩)) (h13 : a0.eval (.tmp 13) = nr.v)
    (hlo : ∀ w, Below r.lo w3 w → r.lo ≤ w.heap.size) (hrow : r.row.length ≤ 10000) (hnx : nx.n ≤ 100000)
    (hsep : Sep r.lo W (itOwn r.lo 3 1 nr (ints r.row) :: r.its nx r.vs r.ls)) (hbl : Below r.lo w3 W)
    (hQ : ∀ (u : Nat → Value) (w : World) (sr : SL) (gg cap : Nat), Sep r.lo w (r.its ⟨some ⟨gg, 0, none⟩, nx.n + 1, cap⟩ (r.vs ++ [sr.v]) (r.ls ++ [insAll r.row])) → Below r.lo w3 w → Q .normal (sel [197, 198, 199, 200, 201, 202, 203, 204, 205] a0 u) w) :
    (Code.region id ops true).wp Tryz.prog Q a0 W := by
  have h10 : ∀ i o, ops[i]? = some o → i < 10 := fun i o h => by
    have := (Array.getElem?_eq_some_iff.1 h).1; omega
  refine region_chain [197, 198, 199, 200, 201, 202, 203, 204, 205] dstR depsR [4, 5, 6, 9] (SR r.A nx nr) (MR r nx nr w3) hm hsz hac hdep ?_ ?_ ?_ ?_ ?_ ?_ ?_ ?_ ?_ ?_ ?_
  · intro i o ho
    have key : ∀ i < 9, dstR i ∈ [197, 198, 199, 200, 201, 202, 203, 204, 205] ∧ dstR i < 207 := by decide +kernel
    have hi := h10 i o ho
    by_cases h : i < 9
    · refine .inl ⟨?_, (key i h).1, by rw [hf]; exact (key i h).2⟩
      rcases lt10 hi with rfl | rfl | rfl | rfl | rfl | rfl | rfl | rfl | rfl | rfl
      · obtain ⟨ty, pos, af, e⟩ := o0; rw [e] at ho; injection ho with ho; subst ho; rfl
      · obtain ⟨ty, pos, af, e⟩ := o1; rw [e] at ho; injection ho with ho; subst ho; rfl
      · obtain ⟨ty, pos, af, e⟩ := o2; rw [e] at ho; injection ho with ho; subst ho; rfl
      · obtain ⟨ty, pos, af, e⟩ := o3; rw [e] at ho; injection ho with ho; subst ho; rfl
      · obtain ⟨ty, pos, af, e⟩ := o4; rw [e] at ho; injection ho with ho; subst ho; rfl
      · obtain ⟨ty, pos, af, e⟩ := o5; rw [e] at ho; injection ho with ho; subst ho; rfl
      · obtain ⟨ty, pos, af, e⟩ := o6; rw [e] at ho; injection ho with ho; subst ho; rfl
      · obtain ⟨ty, pos, af, e⟩ := o7; rw [e] at ho; injection ho with ho; subst ho; rfl
      · obtain ⟨ty, pos, af, e⟩ := o8; rw [e] at ho; injection ho with ho; subst ho; rfl
      · omega
    · obtain rfl : i = 9 := by omega
      obtain ⟨ty, pos, af, e⟩ := o9; rw [e] at ho; injection ho with ho; subst ho
      exact .inr ⟨rfl, by decide⟩
  · exact fun i j _ _ h => by unfold dstR at h; omega
  · have : ∀ i < 10, ∀ j ∈ depsR i, j < 10 := by decide +kernel
    exact fun i j hi h => this i hi j h
  · have : ∀ s < 4, ∀ t < s, [4, 5, 6, 9].getD t 0 ∈ depsR ([4, 5, 6, 9].getD s 0) := by decide +kernel
    exact fun s t hs ht => this s hs t ht
  · have : ∀ s < 4, [4, 5, 6, 9].getD s 0 < 10 := by decide +kernel
    exact fun s hs => this s hs
  · have : ∀ s < 4, ∀ t < 4, [4, 5, 6, 9].getD s 0 = [4, 5, 6, 9].getD t 0 → s = t := by decide +kernel
    exact fun s t hs ht => this s hs t ht
  · intro s v v' w hv hMs
    match s, hv, hMs with
    | 0, _, h => exact h
    | 1, hv, ⟨sr, h1, h2⟩ => exact ⟨sr, (hv 0 (by omega)).symm.trans h1, h2⟩
    | 2, hv, ⟨sr, b, w0, h1, h2, h3⟩ => exact ⟨sr, b, w0, (hv 0 (by omega)).symm.trans h1, (hv 1 (by omega)).symm.trans h2, h3⟩
    | 3, hv, ⟨sr, gg, cap, h1, h2⟩ => exact ⟨sr, gg, cap, (hv 2 (by omega)).symm.trans h1, h2⟩
    | k + 4, _, h => exact h
  · exact fun v => ⟨hsep.drew, hbl.drew⟩
  · intro i o a w v s K hi ho hnc hout hd hst hMs hK
    rcases lt10 hi with rfl | rfl | rfl | rfl | rfl | rfl | rfl | rfl | rfl | rfl
    · obtain ⟨ty, pos, af, e⟩ := o0; rw [e] at ho; injection ho with ho; subst ho
      exact sb_field0 ((hout 9 (by decide)).trans h9) (hK _ rfl)
    · obtain ⟨ty, pos, af, e⟩ := o1; rw [e] at ho; injection ho with ho; subst ho
      obtain ⟨e0, s0⟩ := hd 0 (by decide)
      exact sb_field1 ((e0 (by decide)).trans s0) (hK _ rfl)
    · obtain ⟨ty, pos, af, e⟩ := o2; rw [e] at ho; injection ho with ho; subst ho
      obtain ⟨e0, s0⟩ := hd 1 (by decide)
      have hs2 : s ≤ 2 := hst 2 (by decide) (by decide)
      have hbx : w.heap[r.A]? = some (.cells #[r.ow.v, nx.v, r.s.v] 38 (0, 0)) := by
        match s, hs2, hMs with
        | 0, _, ⟨h, _⟩ => exact h.all (itBox r.A #[r.ow.v, nx.v, r.s.v] 38) (List.mem_of_getElem? (i := 1) rfl)
        | 1, _, ⟨sr, _, h, _⟩ => exact h.all (itBox r.A #[r.ow.v, nx.v, r.s.v] 38) (List.mem_of_getElem? (i := 1) rfl)
        | 2, _, ⟨sr, b, w0, _, _, _, h, _⟩ => exact h.all (itBox r.A #[r.ow.v, nx.v, r.s.v] 38) (List.mem_of_getElem? (i := 1) rfl)
      exact sb_load ((e0 (by decide)).trans s0) (by rw [Lib.cell_of_heap hbx]; rfl) (hK _ rfl)
    · obtain ⟨ty, pos, af, e⟩ := o3; rw [e] at ho; injection ho with ho; subst ho
      exact ss_move ((hout 13 (by decide)).trans h13) (hK _ rfl)
    · exact absurd rfl (hnc 0 (by decide))
    · exact absurd rfl (hnc 1 (by decide))
    · exact absurd rfl (hnc 2 (by decide))
    · obtain ⟨ty, pos, af, e⟩ := o7; rw [e] at ho; injection ho with ho; subst ho
      exact sb_field0 ((hout 9 (by decide)).trans h9) (hK _ rfl)
    · obtain ⟨ty, pos, af, e⟩ := o8; rw [e] at ho; injection ho with ho; subst ho
      obtain ⟨e0, s0⟩ := hd 7 (by decide)
      exact sb_field1 ((e0 (by decide)).trans s0) (hK _ rfl)
    · exact absurd rfl (hnc 3 (by decide))
  · intro s o a w v K hs ho hout hd hMs hK
    have hs4 : s = 0 ∨ s = 1 ∨ s = 2 ∨ s = 3 := by have : s < 4 := hs; omega
    rcases hs4 with rfl | rfl | rfl | rfl
    · obtain ⟨ty, pos, af, e⟩ := o4
      have ho' : ops[4]? = some o := ho
      rw [e] at ho'; injection ho' with ho'; subst ho'
      obtain ⟨e0, s0⟩ := hd 3 (by decide)
      obtain ⟨hsp, hb⟩ := hMs
      obtain ⟨nA, nk, nc⟩ := nr
      have hrl : r.row.length = nk := by have h := hsp.head.1; simpa [ints] using h
      refine sb_call ((e0 (by decide)).trans s0) (rsorted_any w.heap.size nk nc nA r.row w (Nat.le_refl _) (Gr.own_ri (show w.ownsRow r.lo 3 1 (.slice nA nk nc) nk (ints r.row) from hsp.head)) (by omega)) (fun e w' hp => ?_)
      obtain ⟨O, n, c, rfl, hr, hb2⟩ := hp
      exact ⟨_, rfl, hK _ w' trivial ⟨⟨O, n, c⟩, rfl, new_head hsp hb2 (hlo w hb) hr, hb.trans (hb2.mono (hlo w hb))⟩⟩
    · obtain ⟨ty, pos, af, e⟩ := o5
      have ho' : ops[5]? = some o := ho
      rw [e] at ho'; injection ho' with ho'; subst ho'
      obtain ⟨e0, _⟩ := hd 4 (by decide)
      obtain ⟨⟨O, n, c⟩, s0, hsp, hb⟩ := hMs
      refine sb_one ((e0 (by decide)).trans s0) (hK _ _ trivial ⟨⟨O, n, c⟩, w.heap.size, w, s0, rfl, heap_alloc_new w _, hsp.alloc _, hb.alloc (hlo w hb) _⟩)
    · obtain ⟨ty, pos, af, e⟩ := o6
      have ho' : ops[6]? = some o := ho
      rw [e] at ho'; injection ho' with ho'; subst ho'
      obtain ⟨e0, s0⟩ := hd 2 (by decide)
      obtain ⟨e1, _⟩ := hd 5 (by decide)
      obtain ⟨sr, b, w0, s4, s5, hbk, hsp, hb⟩ := hMs
      obtain ⟨i1, hi0, hy0, hy1, hy2⟩ := info32A
      obtain ⟨xA, k, xc⟩ := nx
      have hv : w.ownsRow r.lo 32 1 (.slice xA k xc) k r.vs := hsp.all (itOwn r.lo 32 1 ⟨xA, k, xc⟩ r.vs) (List.mem_of_getElem? (i := 7) rfl)
      have hbx := hsp.all (itBox r.A #[r.ow.v, .slice xA k xc, r.s.v] 38) (List.mem_of_getElem? (i := 1) rfl)
      refine wp_append_lies w _ _ 33 rfl r.lo 32 i1 _ 1 24 Tryz.underlying33 hi0 hy0 hy1 hy2 rfl (by omega) (.slice xA k xc) k r.vs ((e0 (by decide)).trans s0) hv ⟨b, 0, none⟩ 1 1 [sr.v] ((e1 (by decide)).trans s5) rfl (World.news_of_block (cs := #[sr.v]) (t := 32) (fr := (0, 0)) hbk) (by simp [Value.oneCell', SL.v]) (by omega) (by simp only at hnx; unfold maxLen; omega) (by simp only at hnx; omega) (hlo w hb) _ rfl ?_
      intro gg cap w' hown hgrow hat hlt
      have hne : ∀ z, (SL.v ⟨xA, k, xc⟩).ownBlock = some z → z ≠ r.A ∧ r.lo ≤ z := fun z hz => ⟨hsp.ne 7 1 (by omega) rfl rfl (own_mem.2 hz) (by simp [itBox]), (hsp.lows 7 rfl (own_mem.2 hz)).1⟩
      have hAl : r.A < w.heap.size := (Array.getElem?_eq_some_iff.1 hbx).1
      have hbA : w'.heap[r.A]? = some (.cells #[r.ow.v, .slice xA k xc, r.s.v] 38 (0, 0)) := (hgrow.block r.A hAl (fun e => (hne _ e.symm).1 rfl)).trans hbx
      obtain ⟨_, c1, _, _, g1, _⟩ := box3_cells hbA
      refine hK _ w' trivial ⟨sr, gg, cap, rfl, ⟨_, c1⟩, g1, nx_grow hsp (Below.refl _ _) hgrow hat hown, hb.grown hgrow (hlo w hb) (fun z hz => (hne z hz).2)⟩
    · obtain ⟨ty, pos, af, e⟩ := o9
      have ho' : ops[9]? = some o := ho
      rw [e] at ho'; injection ho' with ho'; subst ho'
      obtain ⟨e0, s0⟩ := hd 8 (by decide)
      obtain ⟨e1, _⟩ := hd 6 (by decide)
      obtain ⟨sr, gg, cap, s6, ⟨u, hc⟩, hfz, hsp, hb⟩ := hMs
      have hAlo : r.lo ≤ r.A := (hsp.lows 0 rfl (by simp [itBox])).1
      refine sb_store ((e0 (by decide)).trans s0) ((e1 (by decide)).trans s6) hc hfz (fun y => hK y _ trivial ⟨sr, gg, cap, hsp, hb.setCell (by exact hAlo) _⟩)
  · intro u v w _ _ hMs
    obtain ⟨sr, gg, cap, h1, h2⟩ := hMs
    exact hQ u w sr gg cap h1 h2
end Go.Proofs.YtbppdalfcldodaaGreat
