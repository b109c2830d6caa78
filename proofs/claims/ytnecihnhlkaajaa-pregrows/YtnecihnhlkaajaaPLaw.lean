/- What PreEither, PreGrows and PreDead say, as data. -/
import Derived.Test.YtnecihnhlkaajaaPForce
namespace Go.Proofs.Ytnecihnhlkaajaa.Gr
open Go.RowKit
set_option linter.unusedSimpArgs false
set_option linter.unusedVariables false

theorem hasB_map {n : Nat} {f : Nat → Bool} {x : Int} (h0 : 0 ≤ x) (h1 : x < n) : hasB ((List.range n).map f) x = f x.toNat := by
  obtain ⟨q, rfl⟩ := Int.eq_ofNat_of_zero_le h0
  have hq : q < n := by omega
  rw [hasB_nat]
  simp [List.getD, List.getElem?_map, List.getElem?_range hq]
theorem any_congr {l : List Int} {f h : Int → Bool} (e : ∀ x ∈ l, f x = h x) : l.any f = l.any h := by
  induction l with
  | nil => rfl
  | cons a r ih => rw [List.any_cons, List.any_cons, e a (by simp), ih (fun x hx => e x (by simp [hx]))]
theorem get_row {g : GT} (hm : mayG g = 0) {v : Nat} (hv : v < g.own.length) : ∃ r, g.nxt[v]? = some r ∧ g.nxt.getD v [] = r ∧ ∀ x ∈ r, 0 ≤ x ∧ x < g.own.length := by
  obtain ⟨_, h2, _⟩ := may_facts hm
  have hr := List.getElem?_eq_getElem (l := g.nxt) (i := v) (by omega)
  exact ⟨_, hr, getD_at hr, (may_row hm hr).2.2⟩
theorem own_pl {n : Int} : ∀ {os : List Int} {rs : List (List Int)} {k : Nat} {o : Int}, os.length = rs.length → okRows n os rs = true → os[k]? = some o → plB o = true
  | [], rs, k, o, hl, _, h => by simp at h
  | a :: os, [], k, o, hl, _, h => by simp at hl
  | a :: os, q :: rs, 0, o, hl, h, hk => by
    rw [okRows] at h; simp only [Bool.and_eq_true] at h
    simp at hk; subst hk; exact h.1
  | a :: os, q :: rs, k + 1, o, hl, h, hk => by
    rw [okRows] at h; simp only [Bool.and_eq_true] at h
    exact own_pl (by simpa using hl) h.2.2 (by simpa using hk)
theorem get_own {g : GT} (hm : mayG g = 0) {v : Nat} (hv : v < g.own.length) : ∃ o, g.own[v]? = some o ∧ g.own.getD v 0 = o ∧ (o = 0 ∨ o = 1) := by
  obtain ⟨_, h2, h3⟩ := may_facts hm
  have hr := List.getElem?_eq_getElem (l := g.own) (i := v) hv
  refine ⟨_, hr, getD_at hr, ?_⟩
  have h := own_pl h2.symm h3 hr
  unfold plB at h
  simpa using h
theorem pl_two {who : Int} (h : who = 0 ∨ who = 1) : plB who = true := by rcases h with rfl | rfl <;> rfl
theorem forceL_eq {g : GT} (hm : mayG g = 0) {who : Int} (hw : who = 0 ∨ who = 1) (l : List Bool) : forceL g who l = (List.range g.own.length).map (fAt g who l) := by
  unfold forceL
  rw [if_pos ⟨pl_two hw, hm⟩]
theorem f_own {g : GT} {who : Int} {l : List Bool} {v : Nat} (h : g.own.getD v 0 = who) : fAt g who l v = (g.nxt.getD v []).any (fun x => hasB l x) := by
  unfold fAt; rw [h]; simp
theorem f_oth {g : GT} {who : Int} {l : List Bool} {v : Nat} (h : g.own.getD v 0 ≠ who) : fAt g who l v = !(g.nxt.getD v []).any (fun x => !hasB l x) := by
  unfold fAt; rw [if_neg (by simpa using h)]
theorem f_not {g : GT} (hm : mayG g = 0) {who : Int} (hw : who = 0 ∨ who = 1) {l : List Bool} {v : Nat} (hv : v < g.own.length) : fAt g (1 - who) (notL g.own.length l) v = !fAt g who l v := by
  obtain ⟨r, hr, er, hx⟩ := get_row hm hv
  obtain ⟨o, ho, eo, hoo⟩ := get_own hm hv
  have hh : ∀ x ∈ r, hasB (notL g.own.length l) x = !hasB l x := fun x hxm => by
    obtain ⟨h0, h1⟩ := hx x hxm
    unfold notL
    rw [hasB_map h0 h1]
    obtain ⟨q, rfl⟩ := Int.eq_ofNat_of_zero_le h0
    rw [hasB_nat]; simp
  by_cases h : o = who
  · rw [f_own (who := who) (by rw [eo, h]), f_oth (who := 1 - who) (by rw [eo]; omega), er]
    rw [any_congr (fun x hxm => by rw [hh x hxm, Bool.not_not])]
  · rw [f_oth (who := who) (by rw [eo]; exact h), f_own (who := 1 - who) (by rw [eo]; omega), er, any_congr hh, Bool.not_not]
theorem any_or {l : List Int} {f h : Int → Bool} : l.any (fun x => f x || h x) = (l.any f || l.any h) := by
  induction l with
  | nil => rfl
  | cons a r ih => simp only [List.any_cons, ih]; cases f a <;> cases h a <;> simp
theorem hasB_and {n : Nat} {a b : List Bool} {x : Int} (h0 : 0 ≤ x) (h1 : x < n) : hasB (andL n a b) x = (hasB a x && hasB b x) := by
  unfold andL
  rw [hasB_map h0 h1]
  obtain ⟨q, rfl⟩ := Int.eq_ofNat_of_zero_le h0
  rw [hasB_nat, hasB_nat]; simp
theorem hasB_or {n : Nat} {a b : List Bool} {x : Int} (h0 : 0 ≤ x) (h1 : x < n) : hasB (orL n a b) x = (hasB a x || hasB b x) := by
  unfold orL
  rw [hasB_map h0 h1]
  obtain ⟨q, rfl⟩ := Int.eq_ofNat_of_zero_le h0
  rw [hasB_nat, hasB_nat]; simp
theorem f_grow_own {g : GT} (hm : mayG g = 0) {who : Int} {a b : List Bool} {v : Nat} (hv : v < g.own.length) (h : g.own.getD v 0 = who) :
    fAt g who (orL g.own.length a b) v = (fAt g who a v || fAt g who b v) ∧ (fAt g who (andL g.own.length a b) v = true → fAt g who a v = true ∧ fAt g who b v = true) := by
  obtain ⟨r, hr, er, hx⟩ := get_row hm hv
  rw [f_own h, f_own h, f_own h, f_own h, er]
  refine ⟨?_, ?_⟩
  · rw [any_congr (fun x hxm => hasB_or (hx x hxm).1 (hx x hxm).2), any_or]
  · rw [any_congr (fun x hxm => hasB_and (a := a) (b := b) (hx x hxm).1 (hx x hxm).2)]
    intro h2
    obtain ⟨x, hxm, hxe⟩ := List.any_eq_true.1 h2
    rw [Bool.and_eq_true] at hxe
    exact ⟨List.any_eq_true.2 ⟨x, hxm, hxe.1⟩, List.any_eq_true.2 ⟨x, hxm, hxe.2⟩⟩
theorem f_grow_oth {g : GT} (hm : mayG g = 0) {who : Int} {a b : List Bool} {v : Nat} (hv : v < g.own.length) (h : g.own.getD v 0 ≠ who) :
    fAt g who (andL g.own.length a b) v = (fAt g who a v && fAt g who b v) ∧ ((fAt g who a v = true ∨ fAt g who b v = true) → fAt g who (orL g.own.length a b) v = true) := by
  obtain ⟨r, hr, er, hx⟩ := get_row hm hv
  rw [f_oth h, f_oth h, f_oth h, f_oth h, er]
  refine ⟨?_, ?_⟩
  · rw [any_congr (h := fun x => !hasB a x || !hasB b x) (fun x hxm => by rw [hasB_and (hx x hxm).1 (hx x hxm).2, Bool.not_and]), any_or, Bool.not_or]
  · intro h2
    rw [Bool.not_eq_true', List.any_eq_false]
    intro x hxm
    rw [hasB_or (hx x hxm).1 (hx x hxm).2]
    rcases h2 with h2 | h2
    all_goals
      rw [Bool.not_eq_true', List.any_eq_false] at h2
      have h3 := h2 x hxm
      simp at h3
      simp [h3]
theorem f_dead {g : GT} {who : Int} {l : List Bool} {v : Nat} (h : g.nxt.getD v [] = []) : fAt g who l v = !(g.own.getD v 0 == who) := by
  unfold fAt
  rw [h]
  cases g.own.getD v 0 == who <;> rfl
theorem f_all {g : GT} (hm : mayG g = 0) {who : Int} {v : Nat} (hv : v < g.own.length) (h : g.nxt.getD v [] ≠ []) : fAt g who (notL g.own.length []) v = true := by
  obtain ⟨r, hr, er, hx⟩ := get_row hm hv
  have hh : ∀ x ∈ r, hasB (notL g.own.length []) x = true := fun x hxm => by
    unfold notL
    rw [hasB_map (hx x hxm).1 (hx x hxm).2]; simp
  unfold fAt
  rw [er]
  rw [er] at h
  obtain ⟨x, hxm⟩ := List.exists_mem_of_ne_nil r h
  split
  · exact List.any_eq_true.2 ⟨x, hxm, hh x hxm⟩
  · rw [Bool.not_eq_true', List.any_eq_false]
    intro y hy
    simp [hh y hy]
theorem who2 (who : Int) : ∃ k : Int, (k = 0 ∨ k = 1) ∧ (IntKind.u64.wrap who).tmod 2 = k := by
  have h := IntKind.wrap_u64 who
  rw [h]
  refine ⟨_, ?_, rfl⟩
  have h0 : 0 ≤ who % 18446744073709551616 := Int.emod_nonneg _ (by omega)
  rw [Int.tmod_eq_emod_of_nonneg h0]
  omega
end Go.Proofs.Ytnecihnhlkaajaa.Gr
