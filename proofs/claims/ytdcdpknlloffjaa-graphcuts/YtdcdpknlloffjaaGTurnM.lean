/- Before, as data: the rows are the marks of those that lead there; turned about twice it is as it was; who is reached by it reaches. -/
import Derived.Test.YtdcdpknlloffjaaGReachM
namespace Go.Proofs.Ytdcdpknlloffjaa.Gr
open Go.RowKit
set_option linter.unusedSimpArgs false
set_option linter.unusedVariables false

theorem befRow_len (v : Int) : ∀ (r : List Int) (ls : List (List Int)), (befRow v ls r).length = ls.length
  | [], ls => rfl
  | x :: r, ls => by rw [befRow, befRow_len v r]; simp [pushAt]
theorem befRow_get {n : Int} (v : Int) : ∀ (r : List Int) (lo : Int) (ls : List (List Int)) (w : Nat), 0 ≤ lo → risL n lo r = true → w < ls.length → (befRow v ls r).getD w [] = if (w : Int) ∈ r then ls.getD w [] ++ [v] else ls.getD w []
  | [], lo, ls, w, _, _, _ => by simp [befRow]
  | x :: r, lo, ls, w, h0, h, hw => by
    rw [befRow]
    rw [risL] at h
    split at h
    · cases h
    · rename_i hx
      rw [befRow_get v r (x + 1) (pushAt ls x.toNat v) w (by omega) h (by simp [pushAt]; exact hw)]
      by_cases e : (w : Int) = x
      · have hnr : ¬ (w : Int) ∈ r := fun hm => by have := ris_mem h _ hm; omega
        have hxw : x.toNat = w := by omega
        rw [if_neg hnr, if_pos (by simp [e]), hxw]
        unfold pushAt
        simp [List.getD, List.getElem?_set, hw]
      · have hne : x.toNat ≠ w := by omega
        have hg : (pushAt ls x.toNat v).getD w [] = ls.getD w [] := by
          unfold pushAt
          simp [List.getD, List.getElem?_set, hne]
        rw [hg]
        by_cases hm : (w : Int) ∈ r
        · rw [if_pos hm, if_pos (by simp [hm])]
        · rw [if_neg hm, if_neg (by simp [e, hm])]
def leadB (nxt : List (List Int)) (w : Nat) (v : Nat) : Bool := decide ((w : Int) ∈ nxt.getD v [])
theorem befGo_get {nxt : List (List Int)} {n : Nat} (hall : ∀ (k : Nat) (r : List Int), nxt[k]? = some r → risL n 0 r = true) :
    ∀ (rows : List (List Int)) (k : Nat) (ls : List (List Int)), rows = nxt.drop k → ls.length = n → (∀ w, w < n → ls.getD w [] = pickTo (leadB nxt w) k) → (befGo k ls rows).length = n ∧ ∀ w, w < n → (befGo k ls rows).getD w [] = pickTo (leadB nxt w) (k + rows.length)
  | [], k, ls, _, hl, h => ⟨hl, h⟩
  | r :: rows, k, ls, he, hl, h => by
    have hk : nxt[k]? = some r := by
      have := congrArg (fun x => x[0]?) he
      simpa [List.getElem?_drop] using this.symm
    have hd : rows = nxt.drop (k + 1) := by
      have := congrArg (fun x => x.drop 1) he
      simpa [List.drop_drop, Nat.add_comm] using this
    rw [befGo]
    have := befGo_get hall rows (k + 1) (befRow k ls r) hd (by rw [befRow_len]; exact hl) (fun w hw => by
      rw [befRow_get (k : Int) r 0 ls w (Int.le_refl _) (hall k r hk) (by rw [hl]; exact hw), h w hw, pickTo]
      have hb : leadB nxt w k = decide ((w : Int) ∈ r) := by unfold leadB; rw [getD_at hk]
      by_cases hm : (w : Int) ∈ r
      · rw [if_pos hm, if_pos (by rw [hb]; exact decide_eq_true hm)]
      · rw [if_neg hm, if_neg (by rw [hb]; simp [hm])])
    rw [List.length_cons, show k + (rows.length + 1) = k + 1 + rows.length by omega]
    exact this
theorem bef_eq {g : GT} (hm : mayG g = 0) : befL g = (List.range g.own.length).map fun w => pickTo (leadB g.nxt w) g.own.length := by
  obtain ⟨_, h2, _⟩ := may_facts hm
  have := befGo_get (nxt := g.nxt) (n := g.own.length) (fun k r hk => (may_row hm hk).1) g.nxt 0 (List.replicate g.own.length []) rfl (by simp) (fun w hw => by simp [List.getD, hw, pickTo])
  rw [Nat.zero_add, h2] at this
  unfold befL
  rw [if_pos hm]
  apply List.ext_getElem?
  intro w
  by_cases hw : w < g.own.length
  · rw [List.getElem?_map, List.getElem?_range hw, Option.map_some]
    have h1 := this.2 w hw
    rw [getD_at (List.getElem?_eq_getElem (by rw [this.1]; exact hw))] at h1
    rw [List.getElem?_eq_getElem (by rw [this.1]; exact hw), h1]
  · rw [List.getElem?_eq_none (by rw [this.1]; omega), List.getElem?_eq_none (by simp; omega)]
theorem ris_snoc {n : Int} : ∀ {l : List Int} {lo x : Int}, risL n lo l = true → (∀ y ∈ l, y < x) → lo ≤ x → x < n → risL n lo (l ++ [x]) = true
  | [], lo, x, _, _, h1, h2 => by simp [risL]; omega
  | y :: l, lo, x, h, hy, h1, h2 => by
    rw [risL] at h
    split at h
    · cases h
    · rename_i hh
      have := hy y (by simp)
      rw [List.cons_append, risL, if_neg hh]
      exact ris_snoc h (fun z hz => hy z (by simp [hz])) (by omega) h2
theorem pick_ris (f : Nat → Bool) (n : Nat) : ∀ k, k ≤ n → risL n 0 (pickTo f k) = true
  | 0, _ => rfl
  | k + 1, hk => by
    rw [pickTo]
    split
    · exact ris_snoc (pick_ris f n k (by omega)) (fun y hy => by
        obtain ⟨i, h1, h2, _⟩ := (pick_mem f k y).1 hy
        omega) (by omega) (by omega)
    · exact pick_ris f n k (by omega)
theorem ris_ext {n : Int} : ∀ {a b : List Int} {lo : Int}, risL n lo a = true → risL n lo b = true → (∀ x, x ∈ a ↔ x ∈ b) → a = b
  | [], [], _, _, _, _ => rfl
  | [], y :: b, _, _, _, h => by have := (h y).2 (by simp); simp at this
  | x :: a, [], _, _, _, h => by have := (h x).1 (by simp); simp at this
  | x :: a, y :: b, lo, ha, hb, h => by
    rw [risL] at ha hb
    split at ha
    · cases ha
    · split at hb
      · cases hb
      · have h1 : x = y := by
          have e1 := (h x).1 (by simp)
          have e2 := (h y).2 (by simp)
          rcases List.mem_cons.1 e1 with e1 | e1
          · exact e1
          · rcases List.mem_cons.1 e2 with e2 | e2
            · exact e2.symm
            · have := ris_mem hb x e1; have := ris_mem ha y e2; omega
        subst h1
        congr 1
        refine ris_ext ha hb (fun z => ⟨fun hz => ?_, fun hz => ?_⟩)
        · have e := (h z).1 (by simp [hz])
          rcases List.mem_cons.1 e with e | e
          · have := ris_mem ha z hz; omega
          · exact e
        · have e := (h z).2 (by simp [hz])
          rcases List.mem_cons.1 e with e | e
          · have := ris_mem hb z hz; omega
          · exact e
def turnG (g : GT) : GT := ⟨g.own, befL g⟩
theorem bef_row {g : GT} (hm : mayG g = 0) {w : Nat} (hw : w < g.own.length) : (befL g).getD w [] = pickTo (leadB g.nxt w) g.own.length := by
  rw [bef_eq hm]; simp [List.getD, hw]
theorem bef_len {g : GT} (hm : mayG g = 0) : (befL g).length = g.own.length := by rw [bef_eq hm]; simp
theorem okRows_of {n : Int} : ∀ {os : List Int} {rs rs2 : List (List Int)}, os.length = rs.length → rs2.length = os.length → okRows n os rs = true → (∀ r ∈ rs2, risL n 0 r = true) → okRows n os rs2 = true
  | [], _, _, _, _, _, _ => by simp [okRows]
  | o :: os, [], _, h, _, _, _ => by simp at h
  | o :: os, r :: rs, [], _, h, _, _ => by simp at h
  | o :: os, r :: rs, q :: rs2, h1, h2, h3, h4 => by
    rw [okRows] at h3 ⊢
    simp only [Bool.and_eq_true] at h3 ⊢
    exact ⟨h3.1, h4 q (by simp), okRows_of (by simpa using h1) (by simpa using h2) h3.2.2 (fun r hr => h4 r (by simp [hr]))⟩
theorem turn_may {g : GT} (hm : mayG g = 0) : mayG (turnG g) = 0 := by
  obtain ⟨h1, h2, h3⟩ := may_facts hm
  unfold mayG turnG
  simp only
  rw [if_neg (by omega), if_neg (by rw [bef_len hm]; simp), if_pos]
  exact okRows_of h2.symm (bef_len hm) h3 (fun r hr => by
    rw [bef_eq hm, List.mem_map] at hr
    obtain ⟨w, _, rfl⟩ := hr
    exact pick_ris _ _ _ (Nat.le_refl _))
theorem lead_turn {g : GT} (hm : mayG g = 0) {v w : Nat} (hv : v < g.own.length) (hw : w < g.own.length) : ((w : Int) ∈ (befL g).getD v []) ↔ (v : Int) ∈ g.nxt.getD w [] := by
  rw [bef_row hm hv, pick_mem]
  constructor
  · rintro ⟨i, h1, h2, h3⟩
    have : i = w := by omega
    subst this
    simpa [leadB] using h3
  · intro h
    exact ⟨w, hw, rfl, by simpa [leadB] using h⟩
theorem turn_twice {g : GT} (hm : mayG g = 0) : befL (turnG g) = g.nxt := by
  obtain ⟨h1, h2, h3⟩ := may_facts hm
  rw [bef_eq (turn_may hm)]
  show (List.range g.own.length).map (fun w => pickTo (leadB (befL g) w) g.own.length) = g.nxt
  apply List.ext_getElem?
  intro w
  by_cases hw : w < g.own.length
  · have hr := List.getElem?_eq_getElem (l := g.nxt) (i := w) (by omega)
    rw [List.getElem?_map, List.getElem?_range hw, Option.map_some, hr]
    congr 1
    obtain ⟨q1, _, q3⟩ := may_row hm hr
    refine ris_ext (pick_ris _ _ _ (Nat.le_refl _)) q1 (fun x => ?_)
    rw [pick_mem]
    constructor
    · rintro ⟨i, h4, rfl, h6⟩
      have h7 := (lead_turn hm (v := i) (w := w) h4 hw).1 (by simpa [leadB] using h6)
      rwa [getD_at hr] at h7
    · intro hx
      obtain ⟨h4, h5⟩ := q3 x hx
      obtain ⟨i, rfl⟩ := Int.eq_ofNat_of_zero_le h4
      refine ⟨i, by omega, rfl, ?_⟩
      have h7 := (lead_turn hm (v := i) (w := w) (by omega) hw).2 (by rw [getD_at hr]; exact hx)
      simpa [leadB] using h7
  · rw [List.getElem?_eq_none (by simp; omega), List.getElem?_eq_none (by omega)]
def oneB (u : Nat) : Nat → Bool := fun v => v == u
theorem Rch.lt {nxt : List (List Int)} {fr : Nat → Bool} {n v : Nat} (hr : ∀ (k : Nat) (r : List Int), nxt[k]? = some r → ∀ x ∈ r, x < (n : Int)) (h : Rch nxt fr n v) : v < n := by
  cases h with
  | base hv _ => exact hv
  | step _ h1 h2 => have := hr _ _ h1 _ h2; omega
theorem Rch.trans {nxt : List (List Int)} {fr : Nat → Bool} {n u v : Nat} (h : Rch nxt fr n u) (h2 : Rch nxt (oneB u) n v) : Rch nxt fr n v := by
  induction h2 with
  | @base v0 hv hf =>
    have e : v0 = u := by simpa [oneB] using hf
    rw [e]; exact h
  | step _ hr hm ih => exact .step ih hr hm
theorem rch_turn {g : GT} (hm : mayG g = 0) {u v : Nat} (h : Rch g.nxt (oneB u) g.own.length v) : Rch (befL g) (oneB v) g.own.length u := by
  induction h with
  | @base v0 hv hf =>
    have e : v0 = u := by simpa [oneB] using hf
    subst e
    exact .base hv (by simp [oneB])
  | @step w v r hw hr hv ih =>
    have q := may_row hm hr
    have hvn : v < g.own.length := by have := q.2.2 _ hv; omega
    have hwn : w < g.own.length := by have := (List.getElem?_eq_some_iff.1 hr).1; have := (may_facts hm).2.1; omega
    have e : (w : Int) ∈ (befL g).getD v [] := (lead_turn hm hvn hwn).2 (by rw [getD_at hr]; exact hv)
    have hr2 := List.getElem?_eq_getElem (l := befL g) (i := v) (by rw [bef_len hm]; exact hvn)
    rw [getD_at hr2] at e
    exact Rch.trans (.step (.base hvn (by simp [oneB])) hr2 e) ih
theorem reach_turn {g : GT} (hm : mayG g = 0) (u v : Nat) : reachAt g (oneB u) v = reachAt (turnG g) (oneB v) u := by
  unfold reachAt
  have h1 := @rch_turn g hm u v
  have h2 : Rch (befL g) (oneB v) g.own.length u → Rch g.nxt (oneB u) g.own.length v := fun h => by
    have := @rch_turn (turnG g) (turn_may hm) v u h
    rwa [turn_twice hm] at this
  by_cases h : Rch g.nxt (oneB u) g.own.length v
  · rw [@decide_eq_true _ (Classical.propDecidable _) h]
    exact (@decide_eq_true _ (Classical.propDecidable _) (h1 h)).symm
  · rw [@decide_eq_false _ (Classical.propDecidable _) h]
    exact (@decide_eq_false _ (Classical.propDecidable _) (fun h3 => h (h2 h3))).symm
theorem reach_own {g : GT} {u : Nat} (hu : u < g.own.length) : reachAt g (oneB u) u = true := @decide_eq_true _ (Classical.propDecidable _) (.base hu (by simp [oneB]))
theorem reach_fr {g : GT} {f f2 : Nat → Bool} (h : ∀ v, v < g.own.length → f v = f2 v) (v : Nat) : reachAt g f v = reachAt g f2 v := by
  have go : ∀ {f f2 : Nat → Bool}, (∀ v, v < g.own.length → f v = f2 v) → Rch g.nxt f g.own.length v → Rch g.nxt f2 g.own.length v := fun {f f2} h hr => by
    induction hr with
    | base hv hf => exact .base hv (by rw [← h _ hv]; exact hf)
    | step _ h1 h2 ih => exact .step ih h1 h2
  unfold reachAt
  by_cases hr : Rch g.nxt f g.own.length v
  · rw [@decide_eq_true _ (Classical.propDecidable _) hr]
    exact (@decide_eq_true _ (Classical.propDecidable _) (go h hr)).symm
  · rw [@decide_eq_false _ (Classical.propDecidable _) hr]
    exact (@decide_eq_false _ (Classical.propDecidable _) (fun h3 => hr (go (fun v hv => (h v hv).symm) h3))).symm
end Go.Proofs.Ytdcdpknlloffjaa.Gr
