/- What ArenaTurns and ArenaMoves say, as data. -/
import Derived.Test.YtbppdalfcldodaaGreatABuild
import Derived.Test.YtbppdalfcldodaaGreatGReachM
import Derived.Test.YtbppdalfcldodaaGreatCAwake
import Derived.Test.YtbppdalfcldodaaGreatGMayR
set_option maxRecDepth 100000
namespace Go.Proofs.YtbppdalfcldodaaGreat
open Go.RowKit Ex
set_option linter.unusedSimpArgs false
set_option linter.unusedVariables false

theorem hv6_tot {m : MT} (h : hv6 m = 0) : totN m ≤ 24 := by
  unfold hv6 at h
  split at h
  · omega
  · split at h
    · omega
    · unfold totN; omega
theorem upTo_up {f : Int → Bool} : ∀ {k : Nat}, (upTo f k).Pairwise (· < ·)
  | 0 => List.Pairwise.nil
  | k + 1 => by
    rw [upTo, List.pairwise_append]
    refine ⟨upTo_up, by split <;> simp, fun a ha b hb => ?_⟩
    split at hb
    · simp at hb; subst hb
      exact (upTo_bd ha).2
    · simp at hb
theorem initE_up (m : MT) : (initEnvL m).Pairwise (· < ·) := by unfold initEnvL; split <;> first | exact upTo_up | exact List.Pairwise.nil
theorem initS_up (m : MT) (p : Int) : (initSysL m p).Pairwise (· < ·) := by unfold initSysL; split <;> first | exact upTo_up | exact List.Pairwise.nil
theorem env_up (m : MT) (s : Int) : (envL m s).Pairwise (· < ·) := by unfold envL; split <;> first | exact upTo_up | exact List.Pairwise.nil
theorem sys_up (m : MT) (s p : Int) : (sysL m s p).Pairwise (· < ·) := by unfold sysL; split <;> first | exact upTo_up | exact List.Pairwise.nil
theorem up_nodup {a : List Int} (h : a.Pairwise (· < ·)) : a.Nodup := h.imp (fun hab => by omega)
theorem map_nodup {α β : Type} {f : α → β} (hf : ∀ x y, f x = f y → x = y) {a : List α} (h : a.Nodup) : (a.map f).Nodup := by
  unfold List.Nodup at *
  rw [List.pairwise_map]
  exact h.imp fun hne e => hne (hf _ _ e)
theorem start_inj (x y : Int) (h : startV x = startV y) : x = y := by simpa [startV] using h
theorem env_inj (x y : Int) (h : envV x = envV y) : x = y := by simpa [envV] using h
theorem sys_inj (s x y : Int) (h : sysV s x = sysV s y) : x = y := by simpa [sysV] using h
theorem succ_nodup (m : MT) (x : Vx) : (succV m x).Nodup := by
  unfold succV
  split
  · exact map_nodup start_inj (up_nodup (initE_up m))
  · split
    · exact map_nodup env_inj (up_nodup (initS_up m _))
    · split
      · exact map_nodup (sys_inj _) (up_nodup (env_up m _))
      · split
        · exact map_nodup env_inj (up_nodup (sys_up m _ _))
        · exact List.nodup_nil
theorem numI_inj {l : List Vx} {x y : Vx} (hx : x ∈ l) (hy : y ∈ l) (h : numI l x = numI l y) : x = y := by
  obtain ⟨i, e1, _, h1⟩ := numI_get hx
  obtain ⟨j, e2, _, h2⟩ := numI_get hy
  rw [e1, e2] at h
  have : i = j := by omega
  subst this
  rw [h1] at h2
  exact Option.some.inj h2
theorem nums_nodup {l xs : List Vx} (hin : ∀ y ∈ xs, y ∈ l) (h : xs.Nodup) : (xs.map (numI l)).Nodup := by
  unfold List.Nodup at *
  rw [List.pairwise_map]
  refine List.Pairwise.imp_of_mem (fun ha hb hne e => hne (numI_inj (hin _ ha) (hin _ hb) e)) h
theorem sortI_mem {l : List Int} {x : Int} : x ∈ sortI l ↔ x ∈ l := (List.mergeSort_perm l _).mem_iff
theorem sortI_up {l : List Int} (h : l.Nodup) : (sortI l).Pairwise (· < ·) := by
  have h1 : (sortI l).Pairwise (fun a b => decide (a ≤ b) = true) := List.pairwise_mergeSort (fun a b c h1 h2 => by simp at *; omega) (fun a b => by simp; omega) l
  have h2 : (sortI l).Nodup := (List.mergeSort_perm l _).nodup_iff.2 h
  refine (h1.and h2).imp fun ⟨h3, h4⟩ => ?_
  simp at h3; omega
theorem ris_up {n : Int} : ∀ {l : List Int} {lo : Int}, l.Pairwise (· < ·) → (∀ x ∈ l, lo ≤ x ∧ x < n) → Gr.risL n lo l = true
  | [], _, _, _ => rfl
  | x :: r, lo, h, hb => by
    rw [List.pairwise_cons] at h
    rw [Gr.risL, if_neg (by have := hb x (by simp); omega)]
    exact ris_up h.2 fun y hy => by have := h.1 y hy; have := hb y (by simp [hy]); omega
theorem okRows_of {n : Int} : ∀ {os : List Int} {rs : List (List Int)}, (∀ o ∈ os, Gr.plB o = true) → (∀ r ∈ rs, Gr.risL n 0 r = true) → Gr.okRows n os rs = true
  | [], rs, _, _ => by cases rs <;> rfl
  | o :: os, [], _, _ => rfl
  | o :: os, r :: rs, h1, h2 => by
    rw [Gr.okRows, h1 o (by simp), h2 r (by simp)]
    simp only [Bool.true_and]
    exact okRows_of (fun x hx => h1 x (by simp [hx])) (fun x hx => h2 x (by simp [hx]))
/- the whole game -/
structure Arena (m : MT) (at_ : List Vx) (nx : List (List Int)) : Prop where
  nd : at_.Nodup
  root : at_[0]? = some rootV
  ok : ∀ x ∈ at_, OkV (totN m) x
  len : nx.length = at_.length
  next : ∀ (j : Nat) x, at_[j]? = some x → (∀ y ∈ succV m x, y ∈ at_) ∧ nx[j]? = some (sortI ((succV m x).map (numI at_)))
  from_ : ∀ (i : Nat) y, at_[i]? = some y → 0 < i → ∃ (j : Nat) (x : Vx), j < i ∧ at_[j]? = some x ∧ y ∈ succV m x
section
variable {m : MT} {at_ : List Vx} {nx : List (List Int)}
theorem Arena.pos (h : Arena m at_ nx) : 0 < at_.length := (List.getElem?_eq_some_iff.1 h.root).1
theorem Arena.row (h : Arena m at_ nx) {j : Nat} {r : List Int} (hj : nx[j]? = some r) : ∃ x, at_[j]? = some x ∧ (∀ y ∈ succV m x, y ∈ at_) ∧ r = sortI ((succV m x).map (numI at_)) := by
  have hl : j < at_.length := by rw [← h.len]; exact (List.getElem?_eq_some_iff.1 hj).1
  obtain ⟨h1, h2⟩ := h.next j _ (List.getElem?_eq_getElem hl)
  rw [hj] at h2
  exact ⟨_, List.getElem?_eq_getElem hl, h1, Option.some.inj h2⟩
/- an edge leads to a successor -/
theorem Arena.edge (h : Arena m at_ nx) {j : Nat} {r : List Int} {x : Vx} {w : Int} (hj : nx[j]? = some r) (hx : at_[j]? = some x) (hw : w ∈ r) : ∃ (i : Nat) (y : Vx), w = (i : Int) ∧ i < at_.length ∧ at_[i]? = some y ∧ y ∈ succV m x := by
  obtain ⟨x2, h1, h2, rfl⟩ := h.row hj
  rw [hx] at h1
  obtain rfl := Option.some.inj h1
  rw [sortI_mem, List.mem_map] at hw
  obtain ⟨y, hy, rfl⟩ := hw
  obtain ⟨i, e1, e2, e3⟩ := numI_get (h2 y hy)
  exact ⟨i, y, e1, e2, e3, hy⟩
theorem Arena.may (h : Arena m at_ nx) (hl : at_.length ≤ 3000) : Gr.mayG ⟨at_.map ownV, nx⟩ = 0 := by
  unfold Gr.mayG
  simp only [List.length_map]
  rw [if_neg (by omega), if_neg (by rw [h.len]; simp), if_pos]
  refine okRows_of (fun o ho => ?_) (fun r hr => ?_)
  · obtain ⟨x, _, rfl⟩ := List.mem_map.1 ho
    unfold ownV Gr.plB
    split <;> rfl
  · obtain ⟨j, hj⟩ := List.mem_iff_getElem?.1 hr
    obtain ⟨x, h1, h2, rfl⟩ := h.row hj
    refine ris_up (sortI_up (nums_nodup h2 (succ_nodup m x))) fun w hw => ?_
    rw [sortI_mem, List.mem_map] at hw
    obtain ⟨y, hy, rfl⟩ := hw
    obtain ⟨i, e1, e2, _⟩ := numI_get (h2 y hy)
    omega
/- the players take turns -/
/- each vertex is reached -/
end
end Go.Proofs.YtbppdalfcldodaaGreat
