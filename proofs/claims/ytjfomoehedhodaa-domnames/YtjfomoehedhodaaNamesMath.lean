/- Names, and rows of variables, behind the statement DomNames. -/
import Derived.Test.YtjfomoehedhodaaRefG
namespace Go.Proofs.Ytjfomoehedhodaa
open Go.RowKit Go.WideMaps Go.Maps
set_option linter.unusedSimpArgs false
set_option linter.unusedVariables false

/- names of variables that may be are apart -/
theorem mayGo_apart : ∀ (l : List V) (seen : List (List UInt8)), mayGo seen l = 0 → ∀ (k : Nat) (v : V), l[k]? = some v → v.key ∉ seen ++ (l.take k).map V.key
  | [], _, _, k, v, h => by simp at h
  | u :: r, seen, h0, k, v, h => by
    rw [mayGo] at h0
    split at h0
    · omega
    · split at h0
      · omega
      · rename_i h1 h2
        match k, h with
        | 0, h =>
          simp at h; subst h
          simp; exact fun hm => h1 (.inr hm)
        | k + 1, h =>
          have := mayGo_apart r (seen ++ [u.key]) h0 k v (by simpa using h)
          simpa using this
theorem find_own {l : List V} (h0 : mayGo [] l = 0) {k : Nat} {v : V} (h : l[k]? = some v) : findGo v.nm.toList 0 l = k := by
  have hap := mayGo_apart l [] h0 k v h
  have key : ∀ (m : List V) (i j : Nat), m[j]? = some v → (∀ q u, q < j → m[q]? = some u → u.key ≠ v.key) → findGo v.nm.toList i m = ((i + j : Nat) : Int) := by
    intro m
    induction m with
    | nil => intro i j hj; simp at hj
    | cons u r ih =>
      intro i j hj hne
      rw [findGo]
      match j, hj with
      | 0, hj =>
        simp at hj; subst hj
        rw [if_pos (by simp)]; simp
      | j + 1, hj =>
        have hu : (u.nm.toList == v.nm.toList) = false := by
          cases hb : u.nm.toList == v.nm.toList
          · rfl
          · exact absurd ((key_eq u v).1 hb) (hne 0 u (by omega) (by simp))
        rw [hu]
        have := ih (i + 1) j (by simpa using hj) (fun q x hq hx => hne (q + 1) x (by omega) (by simpa using hx))
        simp only [Bool.false_eq_true, if_false, this]
        omega
  have := key l 0 k h (fun q u hq hu he => hap (by
    simp only [List.nil_append]
    rw [List.mem_map]
    obtain ⟨hql, e⟩ := List.getElem?_eq_some_iff.1 hu
    exact ⟨u, List.mem_iff_getElem.2 ⟨q, by simp; omega, by rw [List.getElem_take, e]⟩, he⟩))
  simpa using this
theorem mayGo_twice : ∀ (l : List V) (seen : List (List UInt8)) (u : V), mayGo seen l = 0 → u.key ∈ seen ++ l.map V.key → mayGo seen (l ++ [u]) = 3
  | [], seen, u, _, hm => by
    simp at hm
    rw [List.nil_append, mayGo, if_pos (.inr hm)]
  | v :: r, seen, u, h0, hm => by
    rw [mayGo] at h0
    split at h0
    · omega
    · split at h0
      · omega
      · rename_i h1 h2
        rw [List.cons_append, mayGo, if_neg h1, if_neg h2]
        exact mayGo_twice r _ u h0 (by simpa using hm)
theorem may_twice {l : List V} {u : V} (h : mayL l = 0) (hu : u ∈ l) : mayL (l ++ [u]) = 3 := by
  have := mayGo_twice l [] u (mayL_zero h).1 (by simp; exact ⟨u, hu, rfl⟩)
  unfold mayL; rw [this]; rfl
def noName : ByteArray := ⟨#[110, 111, 32, 115, 117, 99, 104, 32, 110, 97, 109, 101, 32, 111, 102, 32, 97, 110, 121]⟩
theorem no_name : nameB noName = false := by decide +kernel
theorem find_no {l : List V} (h0 : mayGo [] l = 0) : findGo noName.toList 0 l = -1 := by
  rcases find_lo noName.toList l 0 with h | h
  · exact h
  · exfalso
    obtain ⟨v, hv, e⟩ := (find_mem noName.toList l 0).1 (by omega)
    rw [beq_iff_eq, ByteArray.toList_eq, ByteArray.toList_eq] at e
    have hN := (mayGo_all l [] h0 v hv).2
    have : v.nm = noName := Go.WideShapes.bytes_inj e
    rw [this, no_name] at hN; cases hN
def cellsL (l : List V) : List Value := l.flatMap fun v => [.string v.nm, .bool v.env, .int .i64 v.srt, .int .i64 v.lo, .int .i64 v.hi]
theorem cellsL_length : ∀ l : List V, (cellsL l).length = l.length * 5
  | [] => rfl
  | v :: r => by
    have := cellsL_length r
    unfold cellsL at this ⊢
    rw [List.flatMap_cons, List.length_append, this]
    simp only [List.length_cons, List.length_nil]; omega
theorem cellsL_at : ∀ (l : List V) (j : Nat) (u : Value), (cellsL l)[j]? = some u → ∃ v, l[j / 5]? = some v ∧
    ((j % 5 = 0 ∧ u = .string v.nm) ∨ (j % 5 = 1 ∧ u = .bool v.env) ∨ (j % 5 = 2 ∧ u = .int .i64 v.srt) ∨ (j % 5 = 3 ∧ u = .int .i64 v.lo) ∨ (j % 5 = 4 ∧ u = .int .i64 v.hi))
  | [], j, u, h => by simp [cellsL] at h
  | v :: r, j, u, h => by
    unfold cellsL at h
    rw [List.flatMap_cons] at h
    by_cases hj : j < 5
    · refine ⟨v, by rw [Nat.div_eq_of_lt hj]; rfl, ?_⟩
      rw [Nat.mod_eq_of_lt hj]
      rw [List.getElem?_append_left (by simpa using hj)] at h
      have hcase : j = 0 ∨ j = 1 ∨ j = 2 ∨ j = 3 ∨ j = 4 := by omega
      rcases hcase with rfl | rfl | rfl | rfl | rfl <;> simp at h <;> simp [h]
    · rw [List.getElem?_append_right (by simp; omega)] at h
      obtain ⟨x, hx, hd⟩ := cellsL_at r (j - 5) u (by simpa [cellsL] using h)
      have e1 : j / 5 = (j - 5) / 5 + 1 := by omega
      have e2 : j % 5 = (j - 5) % 5 := by omega
      refine ⟨x, by rw [e1]; simpa using hx, by rw [e2]; exact hd⟩
theorem cellsL_append (l : List V) (u : V) : cellsL (l ++ [u]) = cellsL l ++ [.string u.nm, .bool u.env, .int .i64 u.srt, .int .i64 u.lo, .int .i64 u.hi] := by simp [cellsL]
theorem cellsL_one (l : List V) : ∀ u ∈ cellsL l, u.oneCell' = true := by
  intro u hu
  unfold cellsL at hu
  obtain ⟨v, _, hv⟩ := List.mem_flatMap.1 hu
  simp at hv
  rcases hv with rfl | rfl | rfl | rfl | rfl <;> rfl
theorem RV.news {w : World} {B n b off : Nat} {l : List V} (h : RV w B (some ⟨b, off, none⟩) n l) (hn : 0 < n) : ∀ j u, (cellsL l)[j]? = some u → w.cell? ((⟨b, off, none⟩ : Addr).add j) = some u := by
  intro j u hu
  obtain ⟨b', off', e, _, hc⟩ := h.2 hn
  injection e with e
  injection e with e1 e2
  subst e1; subst e2
  obtain ⟨v, hv, hd⟩ := cellsL_at l j u hu
  obtain ⟨k0, k1, k2, k3, k4⟩ := hc (j / 5) v hv
  have hadd : (⟨b, off, none⟩ : Addr).add j = ⟨b, off + j / 5 * 5 + j % 5, none⟩ := by
    unfold Addr.add
    by_cases hj : j = 0
    · subst hj; simp
    · rw [if_neg hj]; congr 1; show off + j = _; omega
  rw [hadd]
  rcases hd with ⟨e, rfl⟩ | ⟨e, rfl⟩ | ⟨e, rfl⟩ | ⟨e, rfl⟩ | ⟨e, rfl⟩ <;> rw [e] <;> assumption
theorem own_rv {w : World} {base n cap g : Nat} {l : List V} (h : w.ownsRow base 36 5 (.slice (some ⟨g, 0, none⟩) n cap) n (cellsL l)) (hl : l.length = n) : RV w w.heap.size (some ⟨g, 0, none⟩) n l := by
  have hlt := (h.lt g rfl).2
  refine ⟨hl, fun hn => ⟨g, 0, rfl, hlt, fun k v hv => ?_⟩⟩
  have hc := h.cells (g := g) rfl
  have hkl : k < l.length := (List.getElem?_eq_some_iff.1 hv).1
  have look : ∀ j u, j < 5 → ([Value.string v.nm, .bool v.env, .int .i64 v.srt, .int .i64 v.lo, .int .i64 v.hi] : List Value)[j]? = some u → (cellsL l)[k * 5 + j]? = some u := by
    intro j u hj hu
    have e : l = l.take k ++ v :: l.drop (k + 1) := by
      conv => lhs; rw [← List.take_append_drop k l, drop_at hv]
    rw [e]
    have e2 : cellsL (l.take k ++ v :: l.drop (k + 1)) = cellsL (l.take k) ++ ([Value.string v.nm, .bool v.env, .int .i64 v.srt, .int .i64 v.lo, .int .i64 v.hi] ++ cellsL (l.drop (k + 1))) := by simp [cellsL]
    rw [e2, List.getElem?_append_right (by rw [cellsL_length]; simp; omega), cellsL_length]
    have e3 : k * 5 + j - (l.take k).length * 5 = j := by simp; omega
    rw [e3, List.getElem?_append_left (by simpa using hj)]
    exact hu
  have cellAt : ∀ j u, j < 5 → ([Value.string v.nm, .bool v.env, .int .i64 v.srt, .int .i64 v.lo, .int .i64 v.hi] : List Value)[j]? = some u → w.cell? ⟨g, 0 + k * 5 + j, none⟩ = some u := by
    intro j u hj hu
    have h1 := hc _ _ (look j u hj hu)
    have hadd : (⟨g, 0, none⟩ : Addr).add (k * 5 + j) = ⟨g, 0 + k * 5 + j, none⟩ := by
      unfold Addr.add
      by_cases hz : k * 5 + j = 0
      · rw [if_pos hz]; congr 1; omega
      · rw [if_neg hz]; congr 1; show 0 + (k * 5 + j) = _; omega
    rw [hadd] at h1; exact h1
  exact ⟨by simpa using cellAt 0 _ (by omega) rfl, cellAt 1 _ (by omega) rfl, cellAt 2 _ (by omega) rfl, cellAt 3 _ (by omega) rfl, cellAt 4 _ (by omega) rfl⟩
theorem info36 : (Try.prog.info? 36).map (fun i => (i.zero, i.size, i.bytes)) = some (some (.agg #[.string ByteArray.empty, .bool false, .int .i64 0, .int .i64 0, .int .i64 0]), 5, 48) := by kernel_rfl
theorem own_none {w : World} {base g : Nat} (hb : base ≤ g) (h : w.heap[g]? = some (.cells #[] 36 (0, 0))) : w.ownsRow base 36 5 (.slice (some ⟨g, 0, none⟩) 0 0) 0 [] :=
  ⟨rfl, .inr ⟨g, 0, #[], rfl, hb, h, Nat.le_refl _, by unfold maxLen; omega, rfl, rfl⟩⟩
end Go.Proofs.Ytjfomoehedhodaa
