/- A region that draws its order and lays memory: each operation's result is held by a fact about a block of its own; whatever the order, at the end all facts hold that no later operation has used up. -/
import Derived.Test.YtbppdalfcldodaaGreatGSm
namespace Go.Proofs.YtbppdalfcldodaaGreat
open Go.RowKit Ex
set_option linter.unusedSimpArgs false
set_option linter.unusedVariables false

def ownAc (ops : Array Oper) : Bool := (List.range ops.size).all (fun j => match ops[j]? with
  | some o => o.after.all (fun e => !(Region.binds .any e) || decide (e.on < j)) && o.guard.isNone
  | none => true)
theorem ownAc_spec {ops : Array Oper} (h : ownAc ops = true) : ∀ (j : Nat) (o : Oper), ops[j]? = some o → (∀ e ∈ o.after, Region.binds .any e = true → e.on < j) ∧ o.guard = none := fun j o ho => by
  unfold ownAc at h
  rw [List.all_eq_true] at h
  have hj : j < ops.size := (Array.getElem?_eq_some_iff.1 ho).1
  have := h j (List.mem_range.2 hj)
  rw [ho] at this
  simp only [Bool.and_eq_true] at this
  refine ⟨fun e he hb => ?_, by simpa using this.2⟩
  have h2 := Array.all_eq_true'.1 this.1 e he
  simp [hb] at h2
  exact h2
def ownDeps (ops : Array Oper) (deps : Nat → List Nat) : Bool := (List.range ops.size).all (fun i => match ops[i]? with
  | some o => (deps i).all (fun j => o.after.any (fun e => decide (e.on = j) && Region.binds .any e))
  | none => true)
theorem ownDeps_spec {ops : Array Oper} {deps : Nat → List Nat} (h : ownDeps ops deps = true) : ∀ (i : Nat) (o : Oper), ops[i]? = some o → ∀ j ∈ deps i, ∃ e ∈ o.after, e.on = j ∧ Region.binds .any e = true := fun i o ho j hj => by
  unfold ownDeps at h
  rw [List.all_eq_true] at h
  have hi : i < ops.size := (Array.getElem?_eq_some_iff.1 ho).1
  have := h i (List.mem_range.2 hi)
  rw [ho] at this
  simp only at this
  have h2 := List.all_eq_true.1 this j hj
  obtain ⟨e, he, h3⟩ := Array.any_eq_true'.1 h2
  simp at h3
  exact ⟨e, he, h3⟩
theorem sel_far {σ : List Nat} {a : Act} {u : Nat → Value} {j : Nat} (x : Value) (hj : j ∉ σ) : sel σ a u = sel σ a (fun k => if k = j then x else u k) := by
  unfold sel
  refine act_eq _ _ _ (Array.ext_getElem? fun i => ?_)
  rw [Array.getElem?_mapIdx, Array.getElem?_mapIdx]
  cases a.tmps[i]? with
  | none => rfl
  | some y =>
    simp only [Option.map_some]
    by_cases h : i ∈ σ
    · rw [if_pos h, if_pos h, if_neg (fun e : i = j => hj (e ▸ h))]
    · rw [if_neg h, if_neg h]

theorem region_own {id n : Nat} {ops : Array Oper} {Q : Exit → Act → World → Prop} {a0 : Act} {W : World} (σ : List Nat) (dst : Nat → Nat) (deps eats reads : Nat → List Nat) (own : Nat → Bool)
    (S : Nat → Value → Nat → Prop) (R : Nat → Value → World → Nat → Prop)
    (hm : Tryz.prog.follows .mixedOrders = true) (hsz : ops.size = n) (hac : ownAc ops = true) (hdep : ownDeps ops deps = true)
    (hsub : ∀ i j, i < n → j ∈ eats i ∨ j ∈ reads i → j ∈ deps i ∧ j < n)
    (huniq : ∀ i i' j, i < n → i' < n → j ∈ eats i → j ∈ eats i' → i = i')
    (hread : ∀ i e j, i < n → e < n → j ∈ reads i → j ∈ eats e → i ∈ deps e)
    (hlt : ∀ i j, i < n → j ∈ deps i → j < i)
    (hdst : ∀ i o, ops[i]? = some o → (o.dst = some (dst i) ∧ dst i ∈ σ ∧ dst i < a0.tmps.size) ∨ (o.dst = none ∧ dst i ∉ σ))
    (hinj : ∀ i j, i < n → j < n → dst i = dst j → i = j)
    (hR : ∀ j x w w' g, j < n → R j x w g → Below W.heap.size W w → Below W.heap.size W w' → (own j = true → w'.heap[g]? = w.heap[g]?) → R j x w' g)
    (hstep : ∀ i o (a : Act) (w : World) (v : Nat → Value) (g : Nat → Nat) (K : Act → World → Prop), i < n → ops[i]? = some o →
      (∀ s, s ∉ σ → a.eval (.tmp s) = a0.eval (.tmp s)) →
      (∀ j ∈ deps i, (dst j ∈ σ → a.eval (.tmp (dst j)) = v j) ∧ S j (v j) (g j)) →
      (∀ j, j ∈ eats i ∨ j ∈ reads i → R j (v j) w (g j) ∧ (own j = true → W.heap.size ≤ g j ∧ g j < w.heap.size)) →
      Below W.heap.size W w →
      (∀ x gi w', S i x gi → R i x w' gi → Below W.heap.size W w' → w.heap.size ≤ w'.heap.size → (own i = true → ((∃ j ∈ eats i, own j = true ∧ gi = g j) ∨ w.heap.size ≤ gi) ∧ gi < w'.heap.size) →
        (∀ b, b < w.heap.size → (∀ j ∈ eats i, own j = true → b ≠ g j) → w'.heap[b]? = w.heap[b]?) → K (a.put o.dst x) w') →
      Oper.wp Tryz.prog o a w K Q)
    (hend : ∀ (u : Nat → Value) (g : Nat → Nat) (w : World), (∀ j, j < n → S j (u (dst j)) (g j)) → (∀ j, j < n → (∀ e, e < n → j ∉ eats e) → R j (u (dst j)) w (g j) ∧ (own j = true → W.heap.size ≤ g j ∧ g j < w.heap.size)) →
      (∀ i j, i < n → j < n → i ≠ j → own i = true → own j = true → (∀ e, e < n → i ∉ eats e) → (∀ e, e < n → j ∉ eats e) → g i ≠ g j) →
      Below W.heap.size W w → Q .normal (sel σ a0 u) w) :
    (Code.region id ops true).wp Tryz.prog Q a0 W := by
  have hac1 : ∀ (j : Nat) (o : Oper), ops[j]? = some o → ∀ e ∈ o.after, Region.binds .any e = true → e.on < j := fun j o ho => (ownAc_spec hac j o ho).1
  have hdp := ownDeps_spec hdep
  refine wp_region_any hm (wpAny_inv (I := fun listed a w => Below W.heap.size W w ∧ ∃ (u : Nat → Value) (g : Nat → Nat), a = sel σ a0 u ∧
    (∀ j, j < n → listed.getD j false = true → S j (u (dst j)) (g j)) ∧
    (∀ j, j < n → listed.getD j false = true → (∀ e, e < n → j ∈ eats e → listed.getD e false = false) → R j (u (dst j)) w (g j) ∧ (own j = true → W.heap.size ≤ g j ∧ g j < w.heap.size)) ∧
    (∀ i j, i < n → j < n → i ≠ j → own i = true → own j = true → listed.getD i false = true → listed.getD j false = true → (∀ e, e < n → i ∈ eats e → listed.getD e false = false) → (∀ e, e < n → j ∈ eats e → listed.getD e false = false) → g i ≠ g j) ∧
    (∀ i j, i < n → listed.getD i false = true → j ∈ deps i → listed.getD j false = true)) ?_ ?_ _ _ _ _ (by simp) (by rw [Array.countP_replicate]; simp) ?_)
  · rintro listed a w i hs ⟨hbw, u, g, rfl, h1, h2, h3, h4⟩ hi
    obtain ⟨hl0, o, ho, hd⟩ := mem_ready.1 hi
    have hio : i < ops.size := (Array.getElem?_eq_some_iff.1 ho).1
    have hin : i < n := by omega
    have hilt : i < listed.size := by omega
    have hil : listed.getD i false = false := by
      simp [Array.getD, hilt] at hl0 ⊢; exact hl0
    have hgd := (ownAc_spec hac i o ho).2
    have hdl : ∀ j ∈ deps i, listed.getD j false = true := fun j hj => by
      obtain ⟨e, he, rfl, hb⟩ := hdp i o ho j hj
      exact hd e he hb
    have hset : ∀ k, k ≠ i → (listed.setIfInBounds i true).getD k false = listed.getD k false := fun k hk => by
      have hk' : ¬ i = k := fun e => hk e.symm
      by_cases hks : k < listed.size
      · simp [Array.getD, hks, Array.getElem_setIfInBounds, hk']
      · simp [Array.getD, hks]
    have hsi : (listed.setIfInBounds i true).getD i false = true := by simp [Array.getD, hilt]
    have hlive : ∀ j, j ∈ eats i ∨ j ∈ reads i → ∀ e, e < n → j ∈ eats e → listed.getD e false = false := fun j hj e he hje => by
      rcases hj with hj | hj
      · have := huniq i e j hin he hj hje
        subst this; exact hil
      · have := hread i e j hin he hj hje
        cases hle : listed.getD e false with
        | false => rfl
        | true =>
          have := h4 e i he hle this
          rw [hil] at this; cases this
    unfold wpOp
    rw [ho]
    simp only [Region.wanted, hgd, if_true]
    refine .inl (hstep i o (sel σ a0 u) w (fun j => u (dst j)) g _ hin ho (fun s hs => sel_out hs) (fun j hj => ⟨fun hσ => ?_, h1 j (Nat.lt_trans (hlt i j hin hj) hin) (hdl j hj)⟩) (fun j hj => h2 j (hsub i j hin hj).2 (hdl j (hsub i j hin hj).1) (hlive j hj)) hbw (fun x gi w' hSi hRi hbw' hzw hown hfar => ?_))
    · have hjn : j < n := Nat.lt_trans (hlt i j hin hj) hin
      have hoj := Array.getElem?_eq_getElem (xs := ops) (i := j) (by omega)
      rcases hdst j _ hoj with ⟨_, q1, q2⟩ | ⟨_, q1⟩
      · exact sel_in q1 q2
      · exact absurd hσ q1
    · have hne : ∀ j, j < n → j ≠ i → (if dst j = dst i then x else u (dst j)) = u (dst j) := fun j hj h => if_neg (fun e => h (hinj j i hj hin e))
      refine ⟨hbw', fun k => if k = dst i then x else u k, fun k => if k = i then gi else g k, ?_, fun j hj hl => ?_, fun j hj hl hlv => ?_, fun j k hj hk hjk oj ok lj lk vj vk => ?_, fun k j hk hl hjd => ?_⟩
      · rcases hdst i o ho with ⟨q0, q1, q2⟩ | ⟨q0, q1⟩
        · rw [q0, sel_put _ q1]
        · rw [q0]; exact sel_far x q1
      · by_cases e : j = i
        · subst e; simpa using hSi
        · show S j (if dst j = dst i then x else u (dst j)) (if j = i then gi else g j)
          rw [hne j hj e, if_neg e]
          rw [hset j e] at hl
          exact h1 j hj hl
      · by_cases e : j = i
        · subst e
          refine ⟨by simpa using hRi, fun ho => ?_⟩
          obtain ⟨q1, q2⟩ := hown ho
          simp only [if_true]
          refine ⟨?_, q2⟩
          rcases q1 with ⟨k, hk, ok, rfl⟩ | q1
          · exact ((h2 k (hsub j k hj (.inl hk)).2 (hdl k (hsub j k hj (.inl hk)).1) (hlive k (.inl hk))).2 ok).1
          · have := hbw.size; omega
        · show R j (if dst j = dst i then x else u (dst j)) w' (if j = i then gi else g j) ∧ (own j = true → W.heap.size ≤ (if j = i then gi else g j) ∧ (if j = i then gi else g j) < w'.heap.size)
          rw [hne j hj e, if_neg e]
          rw [hset j e] at hl
          have hlv2 : ∀ e', e' < n → j ∈ eats e' → listed.getD e' false = false := fun e' he' hje => by
            have := hlv e' he' hje
            by_cases e2 : e' = i
            · subst e2; rw [hsi] at this; cases this
            · rw [hset e' e2] at this; exact this
          have hni : j ∉ eats i := fun h => by
            have := hlv i hin h
            rw [hsi] at this; cases this
          obtain ⟨r1, r2⟩ := h2 j hj hl hlv2
          refine ⟨hR j _ w w' _ hj r1 hbw hbw' (fun oj => hfar _ (r2 oj).2 (fun k hk ok => ?_)), fun oj => ⟨(r2 oj).1, by have := (r2 oj).2; omega⟩⟩
          exact h3 j k hj (hsub i k hin (.inl hk)).2 (fun e => hni (e ▸ hk)) oj ok hl (hdl k (hsub i k hin (.inl hk)).1) hlv2 (hlive k (.inl hk))
      · have old : ∀ j, j < n → j ≠ i → (listed.setIfInBounds i true).getD j false = true → (∀ e, e < n → j ∈ eats e → (listed.setIfInBounds i true).getD e false = false) → listed.getD j false = true ∧ (∀ e, e < n → j ∈ eats e → listed.getD e false = false) ∧ j ∉ eats i := fun j hj e hl hlv => by
          rw [hset j e] at hl
          refine ⟨hl, fun e' he' hje => ?_, fun h => ?_⟩
          · have := hlv e' he' hje
            by_cases e2 : e' = i
            · subst e2; rw [hsi] at this; cases this
            · rw [hset e' e2] at this; exact this
          · have := hlv i hin h
            rw [hsi] at this; cases this
        have fresh : ∀ j, j < n → j ≠ i → own j = true → own i = true → (listed.setIfInBounds i true).getD j false = true → (∀ e, e < n → j ∈ eats e → (listed.setIfInBounds i true).getD e false = false) → gi ≠ g j := fun j hj e oj oi hl hlv => by
          obtain ⟨q1, q2, q3⟩ := old j hj e hl hlv
          rcases (hown oi).1 with ⟨k, hk, ok, rfl⟩ | q
          · exact h3 k j (hsub i k hin (.inl hk)).2 hj (fun e => q3 (e ▸ hk)) ok oj (hdl k (hsub i k hin (.inl hk)).1) q1 (hlive k (.inl hk)) q2
          · have := ((h2 j hj q1 q2).2 oj).2; omega
        show (if j = i then gi else g j) ≠ (if k = i then gi else g k)
        by_cases e1 : j = i
        · subst e1
          rw [if_pos rfl, if_neg (fun e => hjk e.symm)]
          exact fresh k hk (fun e => hjk e.symm) ok oj lk vk
        · rw [if_neg e1]
          by_cases e2 : k = i
          · subst e2
            rw [if_pos rfl]
            exact fun e => fresh j hj e1 oj ok lj vj e.symm
          · rw [if_neg e2]
            obtain ⟨q1, q2, _⟩ := old j hj e1 lj vj
            obtain ⟨p1, p2, _⟩ := old k hk e2 lk vk
            exact h3 j k hj hk hjk oj ok q1 p1 q2 p2
      · by_cases e : k = i
        · subst e; exact lst_mono (hdl j hjd)
        · rw [hset k e] at hl
          exact lst_mono (h4 k j hk hl hjd)
  · rintro listed a w hs h0 ⟨hbw, u, g, rfl, h1, h2, h3, h4⟩
    have hall := ready_allB hac1 hs h0
    exact hend u g w (fun j hj => h1 j hj (hall _ (by omega))) (fun j hj hv => h2 j hj (hall _ (by omega)) (fun e he hje => absurd hje (hv e he)))
      (fun i j hi hj hne oi oj vi vj => h3 i j hi hj hne oi oj (hall _ (by omega)) (hall _ (by omega)) (fun e he h => absurd h (vi e he)) (fun e he h => absurd h (vj e he))) hbw
  · refine ⟨⟨rfl, rfl, rfl, Nat.le_refl _, fun _ _ => rfl⟩, fun j => a0.tmps.getD j undef, fun _ => 0, (sel_self a0 σ).symm, fun j hj hl => ?_, fun j hj hl _ => ?_, fun i j hi hj hne _ _ l1 => ?_, fun i j hi l1 => ?_⟩
    · simp [Array.getD] at hl
    · simp [Array.getD] at hl
    · simp [Array.getD] at l1
    · simp [Array.getD] at l1

theorem wp_append_row {o : Oper} {a : Act} {K : Act → World → Prop} {Q : Exit → Act → World → Prop} {w : World} (s x : Operand) (t : TypeId)
    (ho : o.op = .call { callee := .builtin .append, args := #[s, x], argTypes := #[t, t] })
    (base : Nat) (e : TypeId) (i : TypeInfo) (z : Value) (size bytes : Nat) (ht : Tryz.prog.underlying t = some (.slice e)) (hi : Tryz.prog.info? e = some i) (hz : i.zero = some z)
    (hsize : i.size = size) (hby : i.bytes = bytes) (hzs : z.cells.size = size) (hsz : 0 < size)
    (g k cap0 : Nat) (xs : List Value) (hs : a.eval s = .slice (some ⟨g, 0, none⟩) k cap0) (hown : w.ownsRow base e size (.slice (some ⟨g, 0, none⟩) k cap0) k xs)
    (A : Option Addr) (n c : Nat) (news : List Value) (hx : a.eval x = .slice A n c) (hl : news.length = n * size) (hnil : A = none → n = 0 ∧ c = 0) (hnews : ∀ ad, A = some ad → ∀ j u, news[j]? = some u → w.cell? (ad.add j) = some u) (h1 : ∀ u ∈ news, u.oneCell' = true)
    (h63 : k + n ≤ maxLen) (hbytes : (k + n) * bytes ≤ 140737488355328) (hbase : base ≤ w.heap.size)
    (h : ∀ g' cap w', w'.ownsRow base e size (.slice (some ⟨g', 0, none⟩) (k + n) cap) (k + n) (xs ++ news) → w.grownBy w' (some g) → (g' = g ∨ g' = w.heap.size) → g' < w'.heap.size → K (a.put o.dst (.slice (some ⟨g', 0, none⟩) (k + n) cap)) w') : Oper.wp Tryz.prog o a w K Q := by
  have hcap : k ≤ cap0 ∧ g < w.heap.size := by
    rcases hown.2 with ⟨e1, _⟩ | ⟨g2, cap, cur, e1, _, e5, h2, _⟩
    · cases e1
    · injection e1 with e2 _ e3
      subst e3
      injection e2 with e2
      injection e2 with e2
      subst e2
      exact ⟨h2, (Array.getElem?_eq_some_iff.1 e5).1⟩
  cases A with
  | some ad =>
    by_cases hn : 0 < n
    · exact wp_append_lies w s x t ho base e i z size bytes ht hi hz hsize hby hzs hsz _ k xs hs hown ad n c news hx hl (hnews ad rfl) h1 hn h63 hbytes hbase w.heap.size rfl (fun g' cap w' q1 q2 q3 q4 => h g' cap w' q1 q2 (by
        rcases q3 with q3 | q3
        · injection q3 with q3; exact .inl q3.symm
        · exact .inr q3) q4)
    · have hn0 : n = 0 := by omega
      subst hn0
      obtain ⟨w', hrun, r1, r2⟩ := run_append_fits (P := Tryz.prog) w base t o.type e i size ht hi hsize g k cap0 xs hown ad 0 c news hl (hnews ad rfl) h1 (by omega)
      unfold Oper.wp
      simp [execOp, ho, resolve, invoke, builtin, hs, hx, hrun, Result.andThen]
      exact h g cap0 w' r1 r2 (.inl rfl) (Nat.lt_of_lt_of_le hcap.2 r2.size)
  | none =>
    obtain ⟨rfl, rfl⟩ := hnil rfl
    have hnews : news = [] := List.eq_nil_of_length_eq_zero (by simpa using hl)
    subst hnews
    have hrun := run_append_owned_none (P := Tryz.prog) w base t o.type e i size ht hi _ k xs hown
    unfold Oper.wp
    simp [execOp, ho, resolve, invoke, builtin, hs, hx, hrun, Result.andThen]
    exact h g cap0 w (by simpa using hown) (World.grownBy.refl _ _) (.inl rfl) hcap.2
end Go.Proofs.YtbppdalfcldodaaGreat
