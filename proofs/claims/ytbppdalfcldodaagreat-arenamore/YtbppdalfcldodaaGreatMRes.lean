/- A region that draws its order, lays memory and stores into blocks that were there: each operation's result, and each block that is given, is held by a fact about blocks of its own. -/
import Derived.Test.YtbppdalfcldodaaGreatMOwn
namespace Go.Proofs.YtbppdalfcldodaaGreat
open Go.RowKit Ex
set_option linter.unusedSimpArgs false
set_option linter.unusedVariables false

theorem region_res {id n N base : Nat} {ops : Array Oper} {Q : Exit → Act → World → Prop} {a0 : Act} {W : World} (σ : List Nat) (dst : Nat → Nat) (deps eats reads : Nat → List Nat) (G : Nat → List Nat)
    (S : Nat → Value → Prop) (R : Nat → Value → World → List Nat → Prop)
    (hm : Tryz.prog.follows .mixedOrders = true) (hsz : ops.size = n) (hnN : n ≤ N) (hac : ownAc ops = true) (hdep : ownDeps ops deps = true) (hbase : base ≤ W.heap.size)
    (hsub : ∀ i j, i < n → j ∈ eats i ∨ j ∈ reads i → (j ∈ deps i ∨ n ≤ j) ∧ j < N)
    (huniq : ∀ i i' j, i < n → i' < n → j ∈ eats i → j ∈ eats i' → i = i')
    (hread : ∀ i e j, i < n → e < n → j ∈ reads i → j ∈ eats e → i ∈ deps e)
    (hlt : ∀ i j, i < n → j ∈ deps i → j < i)
    (hdst : ∀ i o, ops[i]? = some o → (o.dst = some (dst i) ∧ dst i ∈ σ ∧ dst i < a0.tmps.size) ∨ (o.dst = none ∧ dst i ∉ σ))
    (hinj : ∀ i j, i < N → j < N → dst i = dst j → i = j)
    (hR : ∀ j x w w' g, j < N → R j x w g → Below base W w → Below base W w' → (∀ b ∈ g, w'.heap[b]? = w.heap[b]?) → R j x w' g)
    (hG : ∀ j x, n ≤ j → j < N → S j x ∧ R j x W (G j) ∧ ∀ b ∈ G j, base ≤ b ∧ b < W.heap.size)
    (hGD : ∀ i j b, n ≤ i → i < N → n ≤ j → j < N → i ≠ j → b ∈ G i → b ∉ G j)
    (hstep : ∀ i o (a : Act) (w : World) (v : Nat → Value) (g : Nat → List Nat) (K : Act → World → Prop), i < n → ops[i]? = some o →
      (∀ s, s ∉ σ → a.eval (.tmp s) = a0.eval (.tmp s)) →
      (∀ j ∈ deps i, (dst j ∈ σ → a.eval (.tmp (dst j)) = v j) ∧ S j (v j)) →
      (∀ j, j ∈ eats i ∨ j ∈ reads i → R j (v j) w (g j) ∧ ∀ b ∈ g j, base ≤ b ∧ b < w.heap.size) →
      (∀ j k b, j ∈ eats i ∨ j ∈ reads i → k ∈ eats i ∨ k ∈ reads i → j ≠ k → b ∈ g j → b ∉ g k) →
      Below base W w → W.heap.size ≤ w.heap.size →
      (∀ x gi w', S i x → R i x w' gi → Below base W w' → w.heap.size ≤ w'.heap.size → (∀ b ∈ gi, ((∃ j ∈ eats i, b ∈ g j) ∨ w.heap.size ≤ b) ∧ b < w'.heap.size) →
        (∀ b, b < w.heap.size → (∀ j ∈ eats i, b ∉ g j) → w'.heap[b]? = w.heap[b]?) → K (a.put o.dst x) w') →
      Oper.wp Tryz.prog o a w K Q)
    (hend : ∀ (u : Nat → Value) (g : Nat → List Nat) (w : World), (∀ j, j < N → S j (u (dst j))) → (∀ j, j < N → (∀ e, e < n → j ∉ eats e) → R j (u (dst j)) w (g j) ∧ ∀ b ∈ g j, base ≤ b ∧ b < w.heap.size) →
      (∀ i j b, i < N → j < N → i ≠ j → (∀ e, e < n → i ∉ eats e) → (∀ e, e < n → j ∉ eats e) → b ∈ g i → b ∉ g j) →
      Below base W w → W.heap.size ≤ w.heap.size → Q .normal (sel σ a0 u) w) :
    (Code.region id ops true).wp Tryz.prog Q a0 W := by
  have hac1 : ∀ (j : Nat) (o : Oper), ops[j]? = some o → ∀ e ∈ o.after, Region.binds .any e = true → e.on < j := fun j o ho => (ownAc_spec hac j o ho).1
  have hdp := ownDeps_spec hdep
  refine wp_region_any hm (wpAny_inv (I := fun listed a w => Below base W w ∧ W.heap.size ≤ w.heap.size ∧ ∃ (u : Nat → Value) (g : Nat → List Nat), a = sel σ a0 u ∧
    (∀ j, j < N → (listed.getD j false = true ∨ n ≤ j) → S j (u (dst j))) ∧
    (∀ j, j < N → (listed.getD j false = true ∨ n ≤ j) → (∀ e, e < n → j ∈ eats e → listed.getD e false = false) → R j (u (dst j)) w (g j) ∧ ∀ b ∈ g j, base ≤ b ∧ b < w.heap.size) ∧
    (∀ i j b, i < N → j < N → i ≠ j → (listed.getD i false = true ∨ n ≤ i) → (listed.getD j false = true ∨ n ≤ j) → (∀ e, e < n → i ∈ eats e → listed.getD e false = false) → (∀ e, e < n → j ∈ eats e → listed.getD e false = false) → b ∈ g i → b ∉ g j) ∧
    (∀ i j, i < n → listed.getD i false = true → j ∈ deps i → listed.getD j false = true)) ?_ ?_ _ _ _ _ (by simp) (by rw [Array.countP_replicate]; simp) ?_)
  · rintro listed a w i hs ⟨hbw, hWw, u, g, rfl, h1, h2, h3, h4⟩ hi
    obtain ⟨hl0, o, ho, hd⟩ := mem_ready.1 hi
    have hio : i < ops.size := (Array.getElem?_eq_some_iff.1 ho).1
    have hin : i < n := by omega
    have hiN : i < N := by omega
    have hilt : i < listed.size := by omega
    have hil : listed.getD i false = false := by
      simp [Array.getD, hilt] at hl0 ⊢; exact hl0
    have hgd := (ownAc_spec hac i o ho).2
    have hdl : ∀ j ∈ deps i, listed.getD j false = true := fun j hj => by
      obtain ⟨e, he, rfl, hb⟩ := hdp i o ho j hj
      exact hd e he hb
    have hdl2 : ∀ j, j ∈ eats i ∨ j ∈ reads i → listed.getD j false = true ∨ n ≤ j := fun j hj => by
      rcases (hsub i j hin hj).1 with h | h
      · exact .inl (hdl j h)
      · exact .inr h
    have hset : ∀ k, k ≠ i → (listed.setIfInBounds i true).getD k false = listed.getD k false := fun k hk => by
      have hk' : ¬ i = k := fun e => hk e.symm
      by_cases hks : k < listed.size
      · simp [Array.getD, hks, Array.getElem_setIfInBounds, hk']
      · simp [Array.getD, hks]
    have hsi : (listed.setIfInBounds i true).getD i false = true := by simp [Array.getD, hilt]
    have hlive : ∀ j, j ∈ eats i ∨ j ∈ reads i → ∀ e, e < n → j ∈ eats e → listed.getD e false = false := fun j hj e he hje => by
      rcases hj with hj | hj
      · have := huniq i e j hin he hj hje
        subst this; exact hil
      · have := hread i e j hin he hj hje
        cases hle : listed.getD e false with
        | false => rfl
        | true =>
          have := h4 e i he hle this
          rw [hil] at this; cases this
    unfold wpOp
    rw [ho]
    simp only [Region.wanted, hgd, if_true]
    refine .inl (hstep i o (sel σ a0 u) w (fun j => u (dst j)) g _ hin ho (fun s hs => sel_out hs) (fun j hj => ⟨fun hσ => ?_, h1 j (by have := hlt i j hin hj; omega) (.inl (hdl j hj))⟩) (fun j hj => h2 j (hsub i j hin hj).2 (hdl2 j hj) (hlive j hj))
      (fun j k b hj hk hne => h3 j k b (hsub i j hin hj).2 (hsub i k hin hk).2 hne (hdl2 j hj) (hdl2 k hk) (hlive j hj) (hlive k hk)) hbw hWw (fun x gi w' hSi hRi hbw' hzw hown hfar => ?_))
    · have hjn : j < n := Nat.lt_trans (hlt i j hin hj) hin
      have hoj := Array.getElem?_eq_getElem (xs := ops) (i := j) (by omega)
      rcases hdst j _ hoj with ⟨_, q1, q2⟩ | ⟨_, q1⟩
      · exact sel_in q1 q2
      · exact absurd hσ q1
    · have hne : ∀ j, j < N → j ≠ i → (if dst j = dst i then x else u (dst j)) = u (dst j) := fun j hj h => if_neg (fun e => h (hinj j i hj hiN e))
      have hL : ∀ j, j ≠ i → ((listed.setIfInBounds i true).getD j false = true ∨ n ≤ j) → (listed.getD j false = true ∨ n ≤ j) := fun j e h => by
        rcases h with h | h
        · rw [hset j e] at h; exact .inl h
        · exact .inr h
      have old : ∀ j, j < N → j ≠ i → (∀ e, e < n → j ∈ eats e → (listed.setIfInBounds i true).getD e false = false) → (∀ e, e < n → j ∈ eats e → listed.getD e false = false) ∧ j ∉ eats i := fun j hj e hlv => by
        refine ⟨fun e' he' hje => ?_, fun h => ?_⟩
        · have := hlv e' he' hje
          by_cases e2 : e' = i
          · subst e2; rw [hsi] at this; cases this
          · rw [hset e' e2] at this; exact this
        · have := hlv i hin h
          rw [hsi] at this; cases this
      refine ⟨hbw', by omega, fun k => if k = dst i then x else u k, fun k => if k = i then gi else g k, ?_, fun j hj hl => ?_, fun j hj hl hlv => ?_, fun j k b hj hk hjk lj lk vj vk => ?_, fun k j hk hl hjd => ?_⟩
      · rcases hdst i o ho with ⟨q0, q1, q2⟩ | ⟨q0, q1⟩
        · rw [q0, sel_put _ q1]
        · rw [q0]; exact sel_far x q1
      · by_cases e : j = i
        · subst e; simpa using hSi
        · show S j (if dst j = dst i then x else u (dst j))
          rw [hne j hj e]
          exact h1 j hj (hL j e hl)
      · by_cases e : j = i
        · subst e
          refine ⟨by simpa using hRi, fun b hb => ?_⟩
          simp only [if_true] at hb
          obtain ⟨q1, q2⟩ := hown b hb
          refine ⟨?_, q2⟩
          rcases q1 with ⟨k, hk, hbk⟩ | q1
          · exact ((h2 k (hsub j k hin (.inl hk)).2 (hdl2 k (.inl hk)) (hlive k (.inl hk))).2 b hbk).1
          · omega
        · show R j (if dst j = dst i then x else u (dst j)) w' (if j = i then gi else g j) ∧ ∀ b ∈ (if j = i then gi else g j), base ≤ b ∧ b < w'.heap.size
          rw [hne j hj e, if_neg e]
          obtain ⟨hlv2, hni⟩ := old j hj e hlv
          obtain ⟨r1, r2⟩ := h2 j hj (hL j e hl) hlv2
          refine ⟨hR j _ w w' _ hj r1 hbw hbw' (fun b hb => hfar _ (r2 b hb).2 (fun k hk => ?_)), fun b hb => ⟨(r2 b hb).1, by have := (r2 b hb).2; omega⟩⟩
          exact h3 j k b hj (hsub i k hin (.inl hk)).2 (fun e => hni (e ▸ hk)) (hL j e hl) (hdl2 k (.inl hk)) hlv2 (hlive k (.inl hk)) hb
      · have fresh : ∀ j, j < N → j ≠ i → ((listed.setIfInBounds i true).getD j false = true ∨ n ≤ j) → (∀ e, e < n → j ∈ eats e → (listed.setIfInBounds i true).getD e false = false) → ∀ b ∈ gi, b ∉ g j := fun j hj e hl hlv b hb => by
          obtain ⟨q2, q3⟩ := old j hj e hlv
          rcases (hown b hb).1 with ⟨k, hk, hbk⟩ | q
          · exact h3 k j b (hsub i k hin (.inl hk)).2 hj (fun e => q3 (e ▸ hk)) (hdl2 k (.inl hk)) (hL j e hl) (hlive k (.inl hk)) q2 hbk
          · intro hbj
            have := ((h2 j hj (hL j e hl) q2).2 b hbj).2; omega
        show b ∈ (if j = i then gi else g j) → b ∉ (if k = i then gi else g k)
        by_cases e1 : j = i
        · subst e1
          rw [if_pos rfl, if_neg (fun e => hjk e.symm)]
          exact fresh k hk (fun e => hjk e.symm) lk vk b
        · rw [if_neg e1]
          by_cases e2 : k = i
          · subst e2
            rw [if_pos rfl]
            exact fun hb hbi => fresh j hj e1 lj vj b hbi hb
          · rw [if_neg e2]
            exact h3 j k b hj hk hjk (hL j e1 lj) (hL k e2 lk) (old j hj e1 vj).1 (old k hk e2 vk).1
      · by_cases e : k = i
        · subst e; exact lst_mono (hdl j hjd)
        · rw [hset k e] at hl
          exact lst_mono (h4 k j hk hl hjd)
  · rintro listed a w hs h0 ⟨hbw, hWw, u, g, rfl, h1, h2, h3, h4⟩
    have hall := ready_allB hac1 hs h0
    have hL : ∀ j, j < N → (listed.getD j false = true ∨ n ≤ j) := fun j hj => by
      by_cases h : j < n
      · exact .inl (hall j (by omega))
      · exact .inr (by omega)
    exact hend u g w (fun j hj => h1 j hj (hL j hj)) (fun j hj hv => h2 j hj (hL j hj) (fun e he hje => absurd hje (hv e he)))
      (fun i j b hi hj hne vi vj => h3 i j b hi hj hne (hL i hi) (hL j hj) (fun e he h => absurd h (vi e he)) (fun e he h => absurd h (vj e he))) hbw hWw
  · have hf : ∀ j, (Array.replicate ops.size false).getD j false = true → False := fun j h => by simp [Array.getD] at h
    refine ⟨⟨rfl, rfl, rfl, Nat.le_refl _, fun _ _ => rfl⟩, Nat.le_refl _, fun j => a0.tmps.getD j undef, G, (sel_self a0 σ).symm, fun j hj hl => ?_, fun j hj hl _ => ?_, fun i j b hi hj hne l1 l2 _ _ => ?_, fun i j hi l1 => ?_⟩
    · rcases hl with hl | hl
      · exact (hf _ hl).elim
      · exact (hG j _ hl hj).1
    · rcases hl with hl | hl
      · exact (hf _ hl).elim
      · exact ⟨hR j _ W _ _ hj (hG j _ hl hj).2.1 (Below.refl _ _) ⟨rfl, rfl, rfl, Nat.le_refl _, fun _ _ => rfl⟩ (fun _ _ => rfl), (hG j undef hl hj).2.2⟩
    · rcases l1 with l1 | l1
      · exact (hf _ l1).elim
      · rcases l2 with l2 | l2
        · exact (hf _ l2).elim
        · exact hGD i j b l1 hi l2 hj hne
    · exact (hf _ l1).elim
end Go.Proofs.YtbppdalfcldodaaGreat
