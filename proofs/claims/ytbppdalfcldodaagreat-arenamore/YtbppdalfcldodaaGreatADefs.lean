/- A module's game, as data: vertices in the order in which they are found, and where one goes from each. -/
import Derived.Test.YtbppdalfcldodaaGreatGLaw
namespace Go.Proofs.YtbppdalfcldodaaGreat
open Go.RowKit Ex
set_option linter.unusedSimpArgs false
set_option linter.unusedVariables false

abbrev Vx := Int × Int × Int
def rootV : Vx := (1, 0, 0)
def startV (p : Int) : Vx := (2, 0, p)
def envV (s : Int) : Vx := (3, s, 0)
def sysV (s p : Int) : Vx := (4, s, p)
def ownV (x : Vx) : Int := if x.1 = 2 ∨ x.1 = 4 then 1 else 0
def succV (m : MT) (x : Vx) : List Vx :=
  if x.1 = 1 then (initEnvL m).map startV
  else if x.1 = 2 then (initSysL m x.2.2).map envV
  else if x.1 = 3 then (envL m x.2.1).map (sysV x.2.1)
  else if x.1 = 4 then (sysL m x.2.1 x.2.2).map envV
  else []
def addV (l : List Vx) (x : Vx) : List Vx := if x ∈ l then l else l ++ [x]
def addL (l xs : List Vx) : List Vx := xs.foldl addV l
def numI (l : List Vx) (x : Vx) : Int := ((l.idxOf x : Nat) : Int)
def sortI (l : List Int) : List Int := l.mergeSort fun x y => decide (x ≤ y)
def goV (m : MT) : Nat → List Vx × List (List Int)
  | 0 => ([rootV], [])
  | k + 1 => match (goV m k).1[k]? with
    | none => goV m k
    | some x => (addL (goV m k).1 (succV m x), (goV m k).2 ++ [sortI ((succV m x).map (numI (addL (goV m k).1 (succV m x))))])
def atL (m : MT) : List Vx := (goV m 700).1
def nextL (m : MT) : List (List Int) := (goV m 700).2
theorem addV_pre (l : List Vx) (x : Vx) : ∃ r, addV l x = l ++ r := by
  unfold addV
  split
  · exact ⟨[], by simp⟩
  · exact ⟨[x], rfl⟩
theorem addV_mem {l : List Vx} {x y : Vx} : y ∈ addV l x ↔ y ∈ l ∨ y = x := by
  unfold addV
  split
  · rename_i h
    constructor
    · exact .inl
    · rintro (h1 | rfl)
      · exact h1
      · exact h
  · simp
theorem addV_nodup {l : List Vx} {x : Vx} (h : l.Nodup) : (addV l x).Nodup := by
  unfold addV
  split
  · exact h
  · rename_i hx
    rw [List.nodup_append]
    refine ⟨h, by simp, fun a ha b hb => ?_⟩
    simp at hb; subst hb
    exact fun e => hx (e ▸ ha)
theorem addL_cons (l : List Vx) (x : Vx) (r : List Vx) : addL l (x :: r) = addL (addV l x) r := rfl
theorem addL_snoc (l r : List Vx) (x : Vx) : addL l (r ++ [x]) = addV (addL l r) x := by
  unfold addL
  rw [List.foldl_append]; rfl
theorem addL_pre : ∀ (xs l : List Vx), ∃ r, addL l xs = l ++ r
  | [], l => ⟨[], by simp [addL]⟩
  | x :: xs, l => by
    obtain ⟨r, h⟩ := addV_pre l x
    obtain ⟨r2, h2⟩ := addL_pre xs (addV l x)
    exact ⟨r ++ r2, by rw [addL_cons, h2, h, List.append_assoc]⟩
theorem addL_mem {y : Vx} : ∀ {xs l : List Vx}, y ∈ addL l xs ↔ y ∈ l ∨ y ∈ xs
  | [], l => by simp [addL]
  | x :: xs, l => by rw [addL_cons, addL_mem, addV_mem, List.mem_cons, or_assoc]
theorem addL_nodup : ∀ {xs l : List Vx}, l.Nodup → (addL l xs).Nodup
  | [], _, h => h
  | x :: xs, l, h => by rw [addL_cons]; exact addL_nodup (addV_nodup h)
theorem numI_pre {l r : List Vx} {x : Vx} (h : x ∈ l) : numI (l ++ r) x = numI l x := by
  unfold numI
  rw [List.idxOf_append, if_pos h]
theorem numI_addV {l : List Vx} {x y : Vx} (h : x ∈ l) : numI (addV l y) x = numI l x := by
  obtain ⟨r, e⟩ := addV_pre l y
  rw [e, numI_pre h]
theorem numI_addL {l xs : List Vx} {x : Vx} (h : x ∈ l) : numI (addL l xs) x = numI l x := by
  obtain ⟨r, e⟩ := addL_pre xs l
  rw [e, numI_pre h]
theorem numI_at {l : List Vx} (hd : l.Nodup) {k : Nat} {x : Vx} (h : l[k]? = some x) : numI l x = (k : Int) := by
  unfold numI
  obtain ⟨hk, rfl⟩ := List.getElem?_eq_some_iff.1 h
  rw [List.Nodup.idxOf_getElem hd]
theorem numI_get {l : List Vx} {x : Vx} (h : x ∈ l) : ∃ k : Nat, numI l x = (k : Int) ∧ k < l.length ∧ l[k]? = some x :=
  ⟨l.idxOf x, rfl, List.idxOf_lt_length_of_mem h, by rw [List.getElem?_eq_getElem (List.idxOf_lt_length_of_mem h), List.getElem_idxOf]⟩
/- what may be a vertex -/
def OkV (T : Int) (x : Vx) : Prop := x = rootV ∨ (∃ p, x = startV p ∧ 0 ≤ p ∧ p < T) ∨ (∃ s, x = envV s ∧ 0 ≤ s ∧ s < T) ∨ ∃ s p, x = sysV s p ∧ 0 ≤ s ∧ s < T ∧ 0 ≤ p ∧ p < T
theorem upTo_bd {f : Int → Bool} : ∀ {k : Nat} {x : Int}, x ∈ upTo f k → 0 ≤ x ∧ x < (k : Int)
  | 0, x, h => by simp [upTo] at h
  | k + 1, x, h => by
    rw [upTo, List.mem_append] at h
    rcases h with h | h
    · have := upTo_bd h; omega
    · split at h
      · simp at h; omega
      · simp at h
theorem tot_nonneg (m : MT) : ((totN m : Nat) : Int) = Dom.totL m.vars ∨ (totN m = 0) := by
  unfold totN; omega
theorem initE_bd {m : MT} {p : Int} (h : p ∈ initEnvL m) : 0 ≤ p ∧ p < (totN m : Int) := by
  unfold initEnvL at h
  split at h
  · exact upTo_bd h
  · simp at h
theorem initS_bd {m : MT} {p s : Int} (h : s ∈ initSysL m p) : 0 ≤ s ∧ s < (totN m : Int) := by
  unfold initSysL at h
  split at h
  · exact upTo_bd h
  · simp at h
theorem env_bd {m : MT} {s p : Int} (h : p ∈ envL m s) : 0 ≤ p ∧ p < (totN m : Int) := by
  unfold envL at h
  split at h
  · exact upTo_bd h
  · simp at h
theorem sys_bd {m : MT} {s p z : Int} (h : z ∈ sysL m s p) : 0 ≤ z ∧ z < (totN m : Int) := by
  unfold sysL at h
  split at h
  · exact upTo_bd h
  · simp at h
theorem succ_ok {m : MT} {x y : Vx} (hx : OkV (totN m) x) (h : y ∈ succV m x) : OkV (totN m) y := by
  unfold succV at h
  rcases hx with rfl | ⟨p, rfl, h1, h2⟩ | ⟨s, rfl, h1, h2⟩ | ⟨s, p, rfl, h1, h2, h3, h4⟩
  · simp only [rootV, if_pos, List.mem_map] at h
    obtain ⟨p, hp, rfl⟩ := h
    have := initE_bd hp
    exact .inr (.inl ⟨p, rfl, this.1, this.2⟩)
  · simp [startV, List.mem_map] at h
    obtain ⟨s, hs, rfl⟩ := h
    have := initS_bd hs
    exact .inr (.inr (.inl ⟨s, rfl, this.1, this.2⟩))
  · simp [envV, List.mem_map] at h
    obtain ⟨p, hp, rfl⟩ := h
    have := env_bd hp
    exact .inr (.inr (.inr ⟨s, p, rfl, h1, h2, this.1, this.2⟩))
  · simp [sysV, List.mem_map] at h
    obtain ⟨z, hz, rfl⟩ := h
    have := sys_bd hz
    exact .inr (.inr (.inl ⟨z, rfl, this.1, this.2⟩))
structure GoOk (m : MT) (k : Nat) : Prop where
  nd : (goV m k).1.Nodup
  root : (goV m k).1[0]? = some rootV
  ok : ∀ x ∈ (goV m k).1, OkV (totN m) x
  len : k ≤ (goV m k).1.length → (goV m k).2.length = k
  next : ∀ (j : Nat) x, (goV m k).1[j]? = some x → j < k → (∀ y ∈ succV m x, y ∈ (goV m k).1) ∧ (goV m k).2[j]? = some (sortI ((succV m x).map (numI (goV m k).1)))
  from_ : ∀ (i : Nat) y, (goV m k).1[i]? = some y → 0 < i → ∃ (j : Nat) (x : Vx), j < i ∧ j < k ∧ (goV m k).1[j]? = some x ∧ y ∈ succV m x
theorem add_from {y : Vx} {i : Nat} : ∀ {xs l : List Vx}, (addL l xs)[i]? = some y → l[i]? = some y ∨ l.length ≤ i ∧ y ∈ xs := by
  intro xs l h
  by_cases hi : i < l.length
  · left
    obtain ⟨r, e⟩ := addL_pre xs l
    rw [e, List.getElem?_append_left hi] at h
    exact h
  · right
    refine ⟨by omega, ?_⟩
    revert h
    induction xs generalizing l with
    | nil => intro h; rw [show addL l [] = l from rfl] at h; rw [List.getElem?_eq_none (by omega)] at h; cases h
    | cons x xs ih =>
      intro h
      rw [addL_cons] at h
      by_cases hi2 : i < (addV l x).length
      · unfold addV at h hi2
        by_cases hx : x ∈ l
        · rw [if_pos hx] at hi2; omega
        · rw [if_neg hx] at h hi2
          simp at hi2
          have : i = l.length := by omega
          subst this
          obtain ⟨r, e⟩ := addL_pre xs (l ++ [x])
          rw [e, List.append_assoc, List.getElem?_append_right (Nat.le_refl _)] at h
          simp at h
          simp [h]
      · have := ih hi2 h
        simp [this]
theorem go_ok (m : MT) : ∀ k, GoOk m k
  | 0 => ⟨by simp [goV], rfl, fun x hx => by simp [goV] at hx; exact .inl hx, fun _ => rfl, fun j x _ hj => by omega, fun i y h hi => by
      have := (List.getElem?_eq_some_iff.1 h).1
      simp [goV] at this; omega⟩
  | k + 1 => by
    have ih := go_ok m k
    cases hx : (goV m k).1[k]? with
    | none =>
      have e : goV m (k + 1) = goV m k := by simp only [goV, hx]
      have hl : (goV m k).1.length ≤ k := List.getElem?_eq_none_iff.1 hx
      refine ⟨by rw [e]; exact ih.nd, by rw [e]; exact ih.root, by rw [e]; exact ih.ok, fun h => by rw [e] at h; omega, fun j x hj _ => ?_, fun i y h hi => ?_⟩
      · rw [e] at hj ⊢
        exact ih.next j x hj (by have := (List.getElem?_eq_some_iff.1 hj).1; omega)
      · rw [e] at h ⊢
        obtain ⟨j, x, h1, h2, h3⟩ := ih.from_ i y h hi
        exact ⟨j, x, h1, by omega, h3⟩
    | some x =>
      have e : goV m (k + 1) = (addL (goV m k).1 (succV m x), (goV m k).2 ++ [sortI ((succV m x).map (numI (addL (goV m k).1 (succV m x))))]) := by simp only [goV, hx]
      have hk : k < (goV m k).1.length := (List.getElem?_eq_some_iff.1 hx).1
      have hl := ih.len (by omega)
      obtain ⟨r, er⟩ := addL_pre (succV m x) (goV m k).1
      have hin : ∀ j, j < (goV m k).1.length → (addL (goV m k).1 (succV m x))[j]? = (goV m k).1[j]? := fun j hj => by rw [er, List.getElem?_append_left hj]
      rw [show GoOk m (k + 1) ↔ GoOk m (k + 1) from Iff.rfl]
      refine ⟨by rw [e]; exact addL_nodup ih.nd, by rw [e]; simp only; rw [hin 0 (by omega)]; exact ih.root, ?_, ?_, ?_, ?_⟩
      · rw [e]
        intro y hy
        rcases addL_mem.1 hy with h | h
        · exact ih.ok y h
        · exact succ_ok (ih.ok x (List.mem_of_getElem? hx)) h
      · intro _
        rw [e]; simp [hl]
      · rw [e]
        intro j y hj hjk
        simp only at hj ⊢
        rw [hin j (by omega)] at hj
        by_cases hjk2 : j < k
        · obtain ⟨h1, h2⟩ := ih.next j y hj hjk2
          refine ⟨fun z hz => addL_mem.2 (.inl (h1 z hz)), ?_⟩
          rw [List.getElem?_append_left (by omega), h2]
          congr 2
          refine List.map_congr_left fun z hz => ?_
          rw [numI_addL (h1 z hz)]
        · have : j = k := by omega
          subst this
          rw [hx] at hj
          injection hj with hj; subst hj
          refine ⟨fun z hz => addL_mem.2 (.inr hz), ?_⟩
          rw [List.getElem?_append_right (by omega), hl]
          simp
      · rw [e]
        intro i y h hi
        simp only at h
        rcases add_from h with h1 | ⟨h1, h2⟩
        · obtain ⟨j, z, h3, h4, h5, h6⟩ := ih.from_ i y h1 hi
          refine ⟨j, z, h3, by omega, ?_, h6⟩
          simp only
          rw [hin j (by omega)]; exact h5
        · refine ⟨k, x, by omega, by omega, ?_, h2⟩
          simp only
          rw [hin k hk]; exact hx
/- how many there are -/
def allV (T : Nat) : List Vx := rootV :: ((List.range T).map (fun (p : Nat) => startV (p : Int)) ++ ((List.range T).map (fun (s : Nat) => envV (s : Int)) ++ (List.range (T * T)).map (fun (k : Nat) => sysV ((k / T : Nat) : Int) ((k % T : Nat) : Int))))
theorem allV_len (T : Nat) : (allV T).length = 1 + T + T + T * T := by simp [allV]; omega
theorem mem_allV {T : Nat} {x : Vx} (h : OkV (T : Int) x) : x ∈ allV T := by
  unfold allV
  rw [List.mem_cons, List.mem_append, List.mem_append]
  rcases h with rfl | ⟨p, rfl, h1, h2⟩ | ⟨s, rfl, h1, h2⟩ | ⟨s, p, rfl, h1, h2, h3, h4⟩
  · exact .inl rfl
  · refine .inr (.inl (List.mem_map.2 ⟨p.toNat, List.mem_range.2 (by omega), ?_⟩))
    rw [Int.toNat_of_nonneg h1]
  · refine .inr (.inr (.inl (List.mem_map.2 ⟨s.toNat, List.mem_range.2 (by omega), ?_⟩)))
    rw [Int.toNat_of_nonneg h1]
  · refine .inr (.inr (.inr (List.mem_map.2 ⟨s.toNat * T + p.toNat, List.mem_range.2 ?_, ?_⟩)))
    · have a : s.toNat + 1 ≤ T := by omega
      have b : p.toNat < T := by omega
      have := Nat.mul_le_mul_right T a
      rw [Nat.succ_mul] at this
      omega
    · have b : p.toNat < T := by omega
      have hT : 0 < T := by omega
      rw [Nat.mul_comm, Nat.mul_add_div hT, Nat.div_eq_of_lt b, Nat.mul_add_mod, Nat.mod_eq_of_lt b, Nat.add_zero, Int.toNat_of_nonneg h1, Int.toNat_of_nonneg h3]
theorem nodup_leV : ∀ {a b : List Vx}, a.Nodup → (∀ x ∈ a, x ∈ b) → a.length ≤ b.length
  | [], _, _, _ => Nat.zero_le _
  | x :: r, b, hd, h => by
    rw [List.nodup_cons] at hd
    have hxb := h x (by simp)
    have := nodup_leV (a := r) (b := b.erase x) hd.2 (fun y hy => (List.mem_erase_of_ne (fun e => hd.1 (by rw [← e]; exact hy))).2 (h y (by simp [hy])))
    rw [List.length_erase_of_mem hxb] at this
    have := List.length_pos_of_mem hxb
    simp only [List.length_cons]; omega
theorem len_ok {T : Nat} {l : List Vx} (hT : T ≤ 24) (hd : l.Nodup) (h : ∀ x ∈ l, OkV (T : Int) x) : l.length ≤ 625 := by
  have h1 := nodup_leV hd (fun x hx => mem_allV (h x hx))
  rw [allV_len] at h1
  have h2 : T * T ≤ 24 * 24 := Nat.mul_le_mul hT hT
  omega
theorem go_len {m : MT} (hT : totN m ≤ 24) (k : Nat) : (goV m k).1.length ≤ 625 := len_ok hT (go_ok m k).nd (go_ok m k).ok
theorem go_stop {m : MT} {k : Nat} (h : (goV m k).1.length ≤ k) : ∀ d, goV m (k + d) = goV m k
  | 0 => rfl
  | d + 1 => by
    have ih := go_stop h d
    show goV m (k + d + 1) = _
    have : (goV m (k + d)).1[k + d]? = none := by rw [ih]; exact List.getElem?_eq_none (by omega)
    simp only [goV, this]; exact ih
theorem go_all {m : MT} (hT : totN m ≤ 24) {k : Nat} (h : (goV m k).1.length = k) : goV m k = (atL m, nextL m) := by
  have hk := go_len hT k
  have := go_stop (m := m) (k := k) (by omega) (700 - k)
  rw [show k + (700 - k) = 700 by omega] at this
  show goV m k = ((goV m 700).1, (goV m 700).2)
  rw [this]
theorem go_end {m : MT} (hT : totN m ≤ 24) : ∃ k, (goV m k).1.length = k ∧ goV m k = (atL m, nextL m) := by
  have key : ∀ d, d ≤ 700 → (∃ k, (goV m k).1.length = k) ∨ d < (goV m d).1.length := by
    intro d
    induction d with
    | zero => intro _; right; simp [goV]
    | succ d ih =>
      intro hd
      rcases ih (by omega) with h | h
      · exact .inl h
      · by_cases he : (goV m (d + 1)).1.length = d + 1
        · exact .inl ⟨_, he⟩
        · right
          have hx := List.getElem?_eq_getElem h
          have e : (goV m (d + 1)).1 = addL (goV m d).1 (succV m (goV m d).1[d]) := by simp only [goV, hx]
          obtain ⟨r, er⟩ := addL_pre (succV m (goV m d).1[d]) (goV m d).1
          have : (goV m (d + 1)).1.length = (goV m d).1.length + r.length := by rw [e, er]; simp
          omega
  rcases key 700 (by omega) with ⟨k, h⟩ | h
  · exact ⟨k, h, go_all hT h⟩
  · have := go_len hT 700
    omega
end Go.Proofs.YtbppdalfcldodaaGreat
