/- The walk of the statement SortOne. -/
import Derived.Test.YtdjllpejonfpgaaSKinds
import Derived.Test.YtdjllpejonfpgaaSNeeds
namespace Go.Proofs.Ytdjllpejonfpgaa
open Go.RowKit Ex
open Go.Sort (grow)
set_option linter.unusedSimpArgs false
set_option linter.unusedVariables false

theorem tyN_err (l : List Dom.V) (op n : Int) (ss : List Int) : (tyN l op n ss).2 = 0 ∨ ((tyN l op n ss).1 = 0 ∧ ((tyN l op n ss).2 = 3 ∨ (tyN l op n ss).2 = 4)) := by
  unfold tyN
  repeat' split
  all_goals simp
mutual
theorem tyT_err (l : List Dom.V) : ∀ t : T, (tyT l t).2 = 0 ∨ ((tyT l t).1 = 0 ∧ ((tyT l t).2 = 3 ∨ (tyT l t).2 = 4))
  | .mk op n ks => by
    rw [tyT]
    split
    · exact tyN_err l op n _
    · rename_i h
      rcases tyK_err l ks with h0 | h3
      · exact absurd h0 h
      · exact .inr ⟨rfl, h3⟩
theorem tyK_err (l : List Dom.V) : ∀ ks : List T, (tyK l ks).2 = 0 ∨ ((tyK l ks).2 = 3 ∨ (tyK l ks).2 = 4)
  | [] => by rw [tyK]; simp
  | k :: r => by
    rw [tyK]
    split
    · exact tyK_err l r
    · rename_i h
      rcases tyT_err l k with h0 | ⟨_, h3⟩
      · exact absurd h0 h
      · exact .inr h3
end
theorem mayGo_all : ∀ (l : List Dom.V) (seen : List (List UInt8)), Dom.mayGo seen l = 0 → ∀ v ∈ l, v.may = 0
  | [], _, _, v, hv => by simp at hv
  | u :: r, seen, h, v, hv => by
    rw [Dom.mayGo] at h
    split at h
    · omega
    · split at h
      · rename_i h2; exact absurd h h2
      · rename_i h2
        rcases List.mem_cons.1 hv with rfl | hv
        · exact Decidable.byContradiction h2
        · exact mayGo_all r _ h v hv
theorem may_srt {l : List Dom.V} (h : Dom.mayL l = 0) : ∀ v ∈ l, v.srt = 1 ∨ v.srt = 2 := by
  intro v hv
  have hg : Dom.mayGo [] l = 0 := by
    unfold Dom.mayL at h
    split at h
    · rename_i h2; exact absurd h h2
    · rename_i h2; exact Decidable.byContradiction h2
  have hm := mayGo_all l [] hg v hv
  unfold Dom.V.may Dom.mayOfV at hm
  split at hm
  · exact .inl (by assumption)
  · split at hm
    · exact .inr (by assumption)
    · omega
theorem tyK_len (l : List Dom.V) : ∀ ks : List T, (tyK l ks).2 = 0 → (tyK l ks).1.length = ks.length
  | [], _ => by rw [tyK]; rfl
  | k :: r, h => by
    rw [tyK] at h ⊢
    split at h
    · rename_i h0; rw [if_pos h0]; simp [tyK_len l r h]
    · rename_i h0; exact absurd h h0
theorem tyK_at (l : List Dom.V) : ∀ (ks : List T) (k : Nat) (u : T), (tyK l ks).2 = 0 → ks[k]? = some u → (tyT l u).2 = 0 ∧ (tyK l ks).1[k]? = some (tyT l u).1
  | [], k, u, _, h => by simp at h
  | a :: r, 0, u, h, hu => by
    simp at hu; subst hu
    rw [tyK] at h ⊢
    split at h
    · rename_i h0; rw [if_pos h0]; exact ⟨h0, rfl⟩
    · rename_i h0; exact absurd h h0
  | a :: r, k + 1, u, h, hu => by
    rw [tyK] at h ⊢
    split at h
    · rename_i h0
      rw [if_pos h0]
      obtain ⟨h1, h2⟩ := tyK_at l r k u h (by simpa using hu)
      exact ⟨h1, by simpa using h2⟩
    · rename_i h0; exact absurd h h0
theorem tyN_val {l : List Dom.V} (hl : ∀ v ∈ l, v.srt = 1 ∨ v.srt = 2) {op n : Int} {ss : List Int} (hss : ∀ v ∈ ss, v = 1 ∨ v = 2) (hn : 0 ≤ n) (h15 : op = 15 → ss.length = 3) (h : (tyN l op n ss).2 = 0) : (tyN l op n ss).1 = 1 ∨ (tyN l op n ss).1 = 2 := by
  unfold tyN at h ⊢
  by_cases o1 : op = 1
  · rw [if_pos o1]; exact .inr rfl
  · rw [if_neg o1] at h ⊢
    by_cases o2 : op = 2
    · rw [if_pos o2]; exact .inl rfl
    · rw [if_neg o2] at h ⊢
      by_cases o3 : op = 3 ∨ op = 4
      · rw [if_pos o3] at h ⊢
        by_cases hlen : (l.length : Int) ≤ n
        · rw [if_pos hlen] at h; simp at h
        · rw [if_neg hlen] at h ⊢
          have hk : n.toNat < l.length := by omega
          simp only [List.getElem?_eq_getElem hk, Option.map_some, Option.getD_some]
          exact hl _ (List.getElem_mem hk)
      · rw [if_neg o3] at h ⊢
        by_cases o5 : op = 5
        · rw [if_pos o5] at h ⊢
          split
          · exact .inl rfl
          · rename_i h2; rw [if_neg h2] at h; simp at h
        · rw [if_neg o5] at h ⊢
          by_cases o6 : op = 6 ∨ op = 7 ∨ op = 8
          · rw [if_pos o6] at h ⊢
            split
            · exact .inl rfl
            · rename_i h2; rw [if_neg h2] at h; simp at h
          · rw [if_neg o6] at h ⊢
            by_cases o9 : op = 9
            · rw [if_pos o9] at h ⊢
              split
              · exact .inl rfl
              · rename_i h2; rw [if_neg h2] at h; simp at h
            · rw [if_neg o9] at h ⊢
              by_cases o15 : op = 15
              · rw [if_pos o15] at h ⊢
                split
                · have h3 := h15 o15
                  have hk : 1 < ss.length := by omega
                  simp only [List.getD, List.getElem?_eq_getElem hk, Option.getD_some]
                  exact hss _ (List.getElem_mem hk)
                · rename_i h2; rw [if_neg h2] at h; simp at h
              · rw [if_neg o15] at h ⊢
                split
                · split
                  · exact .inl rfl
                  · exact .inr rfl
                · rename_i h2; rw [if_neg h2] at h; simp at h
theorem sound_n0 {t : T} (h : sound t = true) (ho : t.op = 3 ∨ t.op = 4) : 0 ≤ t.n := (sound_n (op := t.op) h ho rfl).1
theorem sound_len15 {t : T} (h : sound t = true) : (t.kids.length : Int) = kidsOf t.op := by
  rw [sound_eq, nodeB_eq, Bool.and_eq_true, Bool.and_eq_true] at h
  simpa using h.1.1
theorem tyN_n0 {l : List Dom.V} {op n : Int} {ss : List Int} (ho : ¬ (op = 3 ∨ op = 4)) : tyN l op n ss = tyN l op 0 ss := by
  unfold tyN
  rw [if_neg ho, if_neg ho]
mutual
theorem tyT_val {l : List Dom.V} (hl : ∀ v ∈ l, v.srt = 1 ∨ v.srt = 2) : ∀ t : T, sound t = true → (tyT l t).2 = 0 → (tyT l t).1 = 1 ∨ (tyT l t).1 = 2
  | .mk op n ks, hs, h => by
    have hk := sound_kids hs
    have hle := sound_len15 hs
    have hn := sound_n0 (t := .mk op n ks) hs
    simp only [T.kids, T.op, T.n] at hk hle hn
    rw [tyT] at h ⊢
    split at h
    · rename_i h0
      rw [if_pos h0]
      have hv := tyK_val hl ks hk h0
      have hl2 := tyK_len l ks h0
      have h15 : op = 15 → (tyK l ks).1.length = 3 := fun e => by
        subst e
        have : kidsOf 15 = 3 := by decide
        omega
      by_cases ho : op = 3 ∨ op = 4
      · exact tyN_val hl hv (hn ho) h15 h
      · rw [tyN_n0 ho] at h ⊢
        exact tyN_val hl hv (by omega) h15 h
    · rename_i h0; exact absurd h h0
theorem tyK_val {l : List Dom.V} (hl : ∀ v ∈ l, v.srt = 1 ∨ v.srt = 2) : ∀ ks : List T, soundK ks = true → (tyK l ks).2 = 0 → ∀ v ∈ (tyK l ks).1, v = 1 ∨ v = 2
  | [], _, _, v, hv => by rw [tyK] at hv; simp at hv
  | k :: r, hs, h, v, hv => by
    rw [soundK, Bool.and_eq_true] at hs
    rw [tyK] at h hv
    split at h
    · rename_i h0
      rw [if_pos h0] at hv
      rcases List.mem_cons.1 hv with rfl | hv
      · exact tyT_val hl k hs.1 h0
      · exact tyK_val hl r hs.2 h v hv
    · rename_i h0; exact absurd h h0
end
theorem need_kind {l : List Dom.V} {t : T} {want : Int} (h2 : (sortE l t).2 = 0) : needE l t want true true true = if (sortE l t).1 = want then 0 else 4 := by
  unfold needE
  rw [if_pos h2, next_all, now_all]; rfl
theorem ty_if {l : List Dom.V} {n s : Int} {ss : List Int} (h : tyN l 15 n ss = (s, 0)) : ss.getD 0 0 = 1 ∧ ss.getD 1 0 = s ∧ ss.getD 2 0 = s := by
  unfold tyN at h
  simp only [show ¬ (15 : Int) = 1 by decide, show ¬ (15 : Int) = 2 by decide, show ¬ ((15 : Int) = 3 ∨ (15 : Int) = 4) by decide, show ¬ (15 : Int) = 5 by decide, show ¬ ((15 : Int) = 6 ∨ (15 : Int) = 7 ∨ (15 : Int) = 8) by decide, show ¬ (15 : Int) = 9 by decide, if_false, if_true] at h
  split at h
  · rename_i h2
    injection h with h3 h4
    exact ⟨h2.1, h3, by rw [← h2.2]; exact h3⟩
  · injection h with h3 h4; omega
theorem ty_same {l : List Dom.V} {n s : Int} {ss : List Int} (h : tyN l 9 n ss = (s, 0)) : ss.getD 0 0 = ss.getD 1 0 ∧ s = 1 := by
  unfold tyN at h
  simp only [show ¬ (9 : Int) = 1 by decide, show ¬ (9 : Int) = 2 by decide, show ¬ ((9 : Int) = 3 ∨ (9 : Int) = 4) by decide, show ¬ (9 : Int) = 5 by decide, show ¬ ((9 : Int) = 6 ∨ (9 : Int) = 7 ∨ (9 : Int) = 8) by decide, if_false, if_true] at h
  split at h
  · rename_i h2
    injection h with h3 h4
    exact ⟨h2, h3.symm⟩
  · injection h with h3 h4; omega
theorem ri_cells {w : World} {B m : Nat} {A : Option Addr} {xs : List Int} (h : RI w B A m xs) (hm : 0 < m) : ∃ b off, A = some ⟨b, off, none⟩ ∧ b < B ∧ ∀ k, k < m → w.cell? ⟨b, off + k, none⟩ = some (.int .i64 (xs.getD k 0)) := by
  obtain ⟨b, off, e, hb, hc⟩ := h.2 hm
  refine ⟨b, off, e, hb, fun k hk => ?_⟩
  have hl : k < xs.length := by have := h.1; omega
  rw [hc k _ (List.getElem?_eq_getElem hl)]
  simp [List.getD, List.getElem?_eq_getElem hl]
theorem take_snoc {xs : List Int} {k : Nat} {x : Int} (h : xs[k]? = some x) : xs.take (k + 1) = xs.take k ++ [x] := by
  obtain ⟨hk, e⟩ := List.getElem?_eq_some_iff.1 h
  rw [List.take_succ_eq_append_getElem hk, e]
end Go.Proofs.Ytdjllpejonfpgaa
