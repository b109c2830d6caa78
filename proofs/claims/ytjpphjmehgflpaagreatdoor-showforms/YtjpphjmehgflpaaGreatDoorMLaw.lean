/- What follows of modules as data: one command more or less, the sides, the goals, other names. -/
import Derived.Test.YtjpphjmehgflpaaGreatDoorGMd
namespace Go.Proofs.YtjpphjmehgflpaaGreatDoor
open Go.RowKit Ex
set_option linter.unusedSimpArgs false
set_option linter.unusedVariables false

theorem modE_iff (m : MT) : modE m = 0 ↔ Dom.mayL m.vars = 0 ∧ needE m.vars m.ie 1 false false false = 0 ∧ needE m.vars m.is 1 true false false = 0 ∧ sizesE m = 0 ∧ cmdsE m.vars true m.env = 0 ∧ cmdsE m.vars false m.sys = 0 ∧ bothE m = 0 ∧ goalsE m.vars m.asm = 0 ∧ goalsE m.vars m.ens = 0 ∧ goalsE m.vars m.prio = 0 := by
  have h : ∀ l : List Int, firstE l = 0 ↔ ∀ x ∈ l, x = 0 := by
    intro l
    induction l with
    | nil => simp [firstE]
    | cons x r ih =>
      rw [firstE]
      by_cases hx : x = 0
      · rw [if_pos hx, ih]; simp [hx]
      · rw [if_neg hx]; simp [hx]
  unfold modE
  rw [h]
  simp
theorem cmdsE_iff (l : List Dom.V) (env : Bool) : ∀ cs, cmdsE l env cs = 0 ↔ ∀ c ∈ cs, cmdE l c env = 0
  | [] => by simp [cmdsE]
  | c :: r => by
    rw [cmdsE]
    by_cases hc : cmdE l c env = 0
    · rw [if_pos hc, cmdsE_iff l env r]; simp [hc]
    · rw [if_neg hc]; simp [hc]
theorem cmdsE_snoc (l : List Dom.V) (env : Bool) (c : CT) : ∀ cs, cmdsE l env cs = 0 → cmdsE l env (cs ++ [c]) = cmdE l c env
  | [], _ => by rw [List.nil_append, cmdsE, cmdsE]; split <;> simp_all
  | a :: r, h => by
    rw [cmdsE] at h
    by_cases ha : cmdE l a env = 0
    · rw [if_pos ha] at h
      rw [List.cons_append, cmdsE, if_pos ha, cmdsE_snoc l env c r h]
    · rw [if_neg ha] at h; exact absurd h ha
theorem goalsE_rep (l : List Dom.V) (t : T) (h : needE l t 1 true false false = 0) : ∀ n, goalsE l (List.replicate n t) = 0
  | 0 => by simp [goalsE]
  | n + 1 => by rw [List.replicate_succ, goalsE, if_pos h, goalsE_rep l t h n]
theorem sizesE_zero {m : MT} (h : sizesE m = 0) : m.env.length ≤ 12 ∧ m.sys.length ≤ 12 ∧ m.asm.length ≤ 4 ∧ m.ens.length ≤ 4 ∧ m.prio.length ≤ 6 := by
  unfold sizesE at h
  split at h
  · cases h
  · omega
/- one command more -/
theorem more_env {m : MT} (h : modE m = 0) (c : CT) : modE { m with env := m.env ++ [c] } = if 12 ≤ m.env.length then 7 else cmdE m.vars c true := by
  obtain ⟨h1, h2, h3, h4, h5, h6, h7, h8, h9, h10⟩ := (modE_iff m).1 h
  have hs := sizesE_zero h4
  have e5 := cmdsE_snoc m.vars true c m.env h5
  have e7 : bothE { m with env := m.env ++ [c] } = 0 := h7
  unfold modE
  simp only [firstE]
  rw [h1, h2, h3, h6, h8, h9, h10, e5, e7]
  by_cases hl : 12 ≤ m.env.length
  · have e4 : sizesE { m with env := m.env ++ [c] } = 7 := by unfold sizesE; rw [if_pos]; left; simp; omega
    rw [e4, if_pos hl]; simp
  · have e4 : sizesE { m with env := m.env ++ [c] } = 0 := by unfold sizesE; rw [if_neg]; simp; omega
    rw [e4, if_neg hl]
    by_cases hc : cmdE m.vars c true = 0 <;> simp [hc]
theorem more_sys {m : MT} (h : modE m = 0) (c : CT) : modE { m with sys := m.sys ++ [c] } = if 12 ≤ m.sys.length then 7 else cmdE m.vars c false := by
  obtain ⟨h1, h2, h3, h4, h5, h6, h7, h8, h9, h10⟩ := (modE_iff m).1 h
  have hs := sizesE_zero h4
  have e6 := cmdsE_snoc m.vars false c m.sys h6
  have e7 : bothE { m with sys := m.sys ++ [c] } = 0 := h7
  unfold modE
  simp only [firstE]
  rw [h1, h2, h3, h5, h8, h9, h10, e6, e7]
  by_cases hl : 12 ≤ m.sys.length
  · have e4 : sizesE { m with sys := m.sys ++ [c] } = 7 := by unfold sizesE; rw [if_pos]; right; left; simp; omega
    rw [e4, if_pos hl]; simp
  · have e4 : sizesE { m with sys := m.sys ++ [c] } = 0 := by unfold sizesE; rw [if_neg]; simp; omega
    rw [e4, if_neg hl]
    by_cases hc : cmdE m.vars c false = 0 <;> simp [hc]
theorem less_env {m : MT} (h : modE m = 0) {l : List CT} (hl : ∀ c ∈ l, c ∈ m.env) (hn : l.length ≤ m.env.length) : modE { m with env := l } = 0 := by
  obtain ⟨h1, h2, h3, h4, h5, h6, h7, h8, h9, h10⟩ := (modE_iff m).1 h
  have hs := sizesE_zero h4
  refine (modE_iff _).2 ⟨h1, h2, h3, ?_, (cmdsE_iff _ _ _).2 (fun c hc => (cmdsE_iff _ _ _).1 h5 c (hl c hc)), h6, h7, h8, h9, h10⟩
  unfold sizesE; rw [if_neg]; simp; omega
theorem less_sys {m : MT} (h : modE m = 0) {l : List CT} (hl : ∀ c ∈ l, c ∈ m.sys) (hn : l.length ≤ m.sys.length) : modE { m with sys := l } = 0 := by
  obtain ⟨h1, h2, h3, h4, h5, h6, h7, h8, h9, h10⟩ := (modE_iff m).1 h
  have hs := sizesE_zero h4
  refine (modE_iff _).2 ⟨h1, h2, h3, ?_, h5, (cmdsE_iff _ _ _).2 (fun c hc => (cmdsE_iff _ _ _).1 h6 c (hl c hc)), h7, h8, h9, h10⟩
  unfold sizesE; rw [if_neg]; simp; omega
/- alike -/
theorem sameE_fit {t : T} (h : fitsB t = true) : sameE t t = true := by unfold sameE; rw [h, sameT_refl]; rfl
theorem need_fit {l : List Dom.V} {t : T} {want : Int} {now env sys : Bool} (h : needE l t want now env sys = 0) : fitsB t = true := by
  unfold needE at h
  by_cases hs : (sortE l t).2 = 0
  · unfold sortE at hs
    by_cases hm : Dom.mayL l = 0
    · rw [if_pos hm] at hs
      by_cases he : mayE t = 0
      · exact ((may_iff t).1 he).1
      · rw [if_neg he] at hs; exact absurd hs he
    · rw [if_neg hm] at hs; exact absurd hs hm
  · rw [if_neg hs] at h; exact absurd h hs
theorem zero_fit {t : T} (h : zeroE t = true) : fitsB t = true := by
  obtain ⟨o, n, ks⟩ := t
  unfold zeroE at h
  simp [T.op, T.n, T.kids] at h
  obtain ⟨⟨rfl, rfl⟩, rfl⟩ := h
  decide +kernel
def FitC (c : CT) : Prop := fitsB c.guard = true ∧ ∀ s ∈ c.sets, fitsB s.e = true
theorem setGo_fit {l : List Dom.V} {env : Bool} : ∀ {ss : List ST} {seen : List Int}, setGo l env seen ss = 0 → ∀ s ∈ ss, fitsB s.e = true
  | [], seen, _, s, hs => by simp at hs
  | a :: r, seen, h, s, hs => by
    rw [setGo] at h
    split at h
    · cases h
    · split at h
      · split at h
        · rename_i hz
          rcases List.mem_cons.1 hs with rfl | hs
          · exact zero_fit hz
          · exact setGo_fit h s hs
        · cases h
      · split at h
        · rename_i hn
          rcases List.mem_cons.1 hs with rfl | hs
          · exact need_fit hn
          · exact setGo_fit h s hs
        · rename_i hn; exact absurd h hn
theorem cmdE_parts {l : List Dom.V} {c : CT} {env : Bool} (h : cmdE l c env = 0) : Dom.mayL l = 0 ∧ needE l c.guard 1 true (!env) false = 0 ∧ c.sets.length ≤ 6 ∧ setGo l env [] c.sets = 0 := by
  unfold cmdE at h
  by_cases h1 : Dom.mayL l = 0
  · rw [if_pos h1] at h
    by_cases h2 : needE l c.guard 1 true (!env) false = 0
    · rw [if_pos h2] at h
      by_cases h3 : 6 < c.sets.length
      · rw [if_pos h3] at h; cases h
      · rw [if_neg h3] at h; exact ⟨h1, h2, by omega, h⟩
    · rw [if_neg h2] at h; exact absurd h h2
  · rw [if_neg h1] at h; exact absurd h h1
theorem cmd_fit {l : List Dom.V} {c : CT} {env : Bool} (h : cmdE l c env = 0) : FitC c :=
  ⟨need_fit (cmdE_parts h).2.1, setGo_fit (cmdE_parts h).2.2.2⟩
theorem goals_fit {l : List Dom.V} : ∀ {ts : List T}, goalsE l ts = 0 → ∀ t ∈ ts, fitsB t = true
  | [], _, t, ht => by simp at ht
  | a :: r, h, t, ht => by
    rw [goalsE] at h
    split at h
    · rename_i hn
      rcases List.mem_cons.1 ht with rfl | ht
      · exact need_fit hn
      · exact goals_fit h t ht
    · rename_i hn; exact absurd h hn
theorem varsS_refl : ∀ l, varsS l l = true
  | [] => by rw [varsS]
  | v :: r => by rw [varsS, varsS_refl r]; simp
theorem rowS_refl : ∀ {l : List T}, (∀ t ∈ l, fitsB t = true) → rowS l l = true
  | [], _ => by rw [rowS]
  | t :: r, h => by rw [rowS, sameE_fit (h t (by simp)), rowS_refl (fun u hu => h u (by simp [hu]))]; rfl
theorem setsS_refl : ∀ {l : List ST}, (∀ s ∈ l, fitsB s.e = true) → setsS l l = true
  | [], _ => by rw [setsS]
  | s :: r, h => by rw [setsS, sameE_fit (h s (by simp)), setsS_refl (fun u hu => h u (by simp [hu]))]; simp
theorem cmdsS_refl : ∀ {l : List CT}, (∀ c ∈ l, FitC c) → cmdsS l l = true
  | [], _ => by rw [cmdsS]
  | c :: r, h => by rw [cmdsS, sameE_fit (h c (by simp)).1, setsS_refl (h c (by simp)).2, cmdsS_refl (fun u hu => h u (by simp [hu]))]; rfl
theorem cmdsS_len : ∀ {a b : List CT}, cmdsS a b = true → a.length = b.length
  | [], [], _ => rfl
  | a :: r, b :: s, h => by
    rw [cmdsS, Bool.and_eq_true] at h
    rw [List.length_cons, List.length_cons, cmdsS_len h.2]
  | [], _ :: _, h => by rw [cmdsS] at h; cases h
  | _ :: _, [], h => by rw [cmdsS] at h; cases h
def FitM (m : MT) : Prop := fitsB m.ie = true ∧ fitsB m.is = true ∧ (∀ c ∈ m.env, FitC c) ∧ (∀ c ∈ m.sys, FitC c) ∧ (∀ t ∈ m.asm, fitsB t = true) ∧ (∀ t ∈ m.ens, fitsB t = true) ∧ (∀ t ∈ m.prio, fitsB t = true)
theorem mod_fit {m : MT} (h : modE m = 0) : FitM m := by
  obtain ⟨h1, h2, h3, h4, h5, h6, h7, h8, h9, h10⟩ := (modE_iff m).1 h
  exact ⟨need_fit h2, need_fit h3, fun c hc => cmd_fit ((cmdsE_iff _ _ _).1 h5 c hc), fun c hc => cmd_fit ((cmdsE_iff _ _ _).1 h6 c hc), goals_fit h8, goals_fit h9, goals_fit h10⟩
theorem modS_refl {m : MT} (h : FitM m) : modS m m = true := by
  obtain ⟨h1, h2, h3, h4, h5, h6, h7⟩ := h
  unfold modS
  rw [varsS_refl, sameE_fit h1, sameE_fit h2, cmdsS_refl h3, cmdsS_refl h4, rowS_refl h5, rowS_refl h6, rowS_refl h7]; rfl
theorem more_same_env {m : MT} (h : modE m = 0) {c : CT} (hc : cmdE m.vars c true = 0) : modS { m with env := m.env ++ [c] } { m with env := m.env ++ [c] } = true := by
  obtain ⟨h1, h2, h3, h4, h5, h6, h7⟩ := mod_fit h
  refine modS_refl ⟨h1, h2, fun x hx => ?_, h4, h5, h6, h7⟩
  rcases List.mem_append.1 hx with hx | hx
  · exact h3 x hx
  · simp at hx; subst hx; exact cmd_fit hc
theorem more_same_sys {m : MT} (h : modE m = 0) {c : CT} (hc : cmdE m.vars c false = 0) : modS { m with sys := m.sys ++ [c] } { m with sys := m.sys ++ [c] } = true := by
  obtain ⟨h1, h2, h3, h4, h5, h6, h7⟩ := mod_fit h
  refine modS_refl ⟨h1, h2, h3, fun x hx => ?_, h5, h6, h7⟩
  rcases List.mem_append.1 hx with hx | hx
  · exact h4 x hx
  · simp at hx; subst hx; exact cmd_fit hc
theorem cmdsS_snoc (l : List CT) (c : CT) : cmdsS (l ++ [c]) l = false := by
  cases h : cmdsS (l ++ [c]) l
  · rfl
  · have := cmdsS_len h; simp at this
theorem more_other_env (m : MT) (c : CT) : modS { m with env := m.env ++ [c] } m = false := by
  unfold modS; simp only; rw [cmdsS_snoc]; simp
theorem more_other_sys (m : MT) (c : CT) : modS { m with sys := m.sys ++ [c] } m = false := by
  unfold modS; simp only; rw [cmdsS_snoc]; simp
/- the goals -/
theorem goals_laws {m : MT} {t : T} (n : Nat) (h : modE { m with asm := [], ens := [], prio := [] } = 0) (ht : needE m.vars t 1 true false false = 0) :
    modE { m with asm := List.replicate n t, ens := [], prio := [] } = (if 4 < n then 7 else 0) ∧ modE { m with asm := [], ens := [], prio := List.replicate n t } = (if 6 < n then 7 else 0) ∧
    modE { m with asm := [], ens := List.replicate n t, prio := [t] } = (if 4 < n then 7 else if n = 0 then 0 else 1) := by
  obtain ⟨h1, h2, h3, h4, h5, h6, h7, h8, h9, h10⟩ := (modE_iff _).1 h
  simp only at h1 h2 h3 h5 h6
  have hs := sizesE_zero h4
  simp only at hs
  have hr := goalsE_rep m.vars t ht
  have h1t : goalsE m.vars [t] = 0 := hr 1
  have h0 : goalsE m.vars [] = 0 := hr 0
  refine ⟨?_, ?_, ?_⟩
  · unfold modE
    simp only [firstE]
    rw [h1, h2, h3, h5, h6, hr n, h0]
    by_cases hn : 4 < n
    · rw [if_pos hn, show sizesE { m with asm := List.replicate n t, ens := [], prio := [] } = 7 by unfold sizesE; rw [if_pos]; simp; omega]; simp
    · rw [if_neg hn, show sizesE { m with asm := List.replicate n t, ens := [], prio := [] } = 0 by unfold sizesE; rw [if_neg]; simp; omega, show bothE { m with asm := List.replicate n t, ens := [], prio := [] } = 0 by unfold bothE; rw [if_neg]; simp]; simp
  · unfold modE
    simp only [firstE]
    rw [h1, h2, h3, h5, h6, hr n, h0]
    by_cases hn : 6 < n
    · rw [if_pos hn, show sizesE { m with asm := [], ens := [], prio := List.replicate n t } = 7 by unfold sizesE; rw [if_pos]; simp; omega]; simp
    · rw [if_neg hn, show sizesE { m with asm := [], ens := [], prio := List.replicate n t } = 0 by unfold sizesE; rw [if_neg]; simp; omega, show bothE { m with asm := [], ens := [], prio := List.replicate n t } = 0 by unfold bothE; rw [if_neg]; simp]; simp
  · unfold modE
    simp only [firstE]
    rw [h1, h2, h3, h5, h6, hr n, h0, h1t]
    by_cases hn : 4 < n
    · rw [if_pos hn, show sizesE { m with asm := [], ens := List.replicate n t, prio := [t] } = 7 by unfold sizesE; rw [if_pos]; simp; omega]; simp
    · rw [if_neg hn, show sizesE { m with asm := [], ens := List.replicate n t, prio := [t] } = 0 by unfold sizesE; rw [if_neg]; simp; omega]
      by_cases h00 : n = 0
      · subst h00
        rw [if_pos rfl, show bothE { m with asm := [], ens := List.replicate 0 t, prio := [t] } = 0 by unfold bothE; rw [if_neg]; simp]; simp
      · rw [if_neg h00, show bothE { m with asm := [], ens := List.replicate n t, prio := [t] } = 1 by unfold bothE; rw [if_pos]; simp; omega]; simp
/- the sides -/
theorem setGo_at {l : List Dom.V} {env : Bool} : ∀ {ss : List ST} {seen : List Int}, setGo l env seen ss = 0 → ∀ (i : Nat) (s : ST), ss[i]? = some s → 0 ≤ s.var ∧ s.var < l.length ∧ envAt l s.var = env ∧ s.var ∉ seen ∧ ∀ (j : Nat) (u : ST), j < i → ss[j]? = some u → u.var ≠ s.var
  | [], seen, _, i, s, hs => by simp at hs
  | a :: r, seen, h, i, s, hs => by
    rw [setGo] at h
    have hb : ¬ (a.var < 0 ∨ (l.length : Int) ≤ a.var ∨ envAt l a.var ≠ env ∨ a.var ∈ seen) := fun hb => by rw [if_pos hb] at h; cases h
    rw [if_neg hb] at h
    have hr : setGo l env (a.var :: seen) r = 0 := by
      split at h
      · split at h
        · exact h
        · cases h
      · split at h
        · exact h
        · rename_i hn; exact absurd h hn
    have hb2 : 0 ≤ a.var ∧ a.var < l.length ∧ envAt l a.var = env ∧ a.var ∉ seen := by
      refine ⟨?_, ?_, ?_, ?_⟩
      · exact Decidable.byContradiction fun h => hb (.inl (by omega))
      · exact Decidable.byContradiction fun h => hb (.inr (.inl (by omega)))
      · exact Decidable.byContradiction fun h => hb (.inr (.inr (.inl h)))
      · exact fun h => hb (.inr (.inr (.inr h)))
    cases i with
    | zero =>
      simp at hs; subst hs
      exact ⟨hb2.1, hb2.2.1, hb2.2.2.1, hb2.2.2.2, fun j u hj _ => by omega⟩
    | succ i =>
      obtain ⟨q1, q2, q3, q4, q5⟩ := setGo_at hr i s (by simpa using hs)
      simp at q4
      refine ⟨q1, q2, q3, q4.2, fun j u hj hu => ?_⟩
      cases j with
      | zero => simp at hu; subst hu; exact fun e => q4.1 e.symm
      | succ j => exact q5 j u (by omega) (by simpa using hu)
theorem setGo_snoc {l : List Dom.V} {env : Bool} (v : Int) : ∀ {ss : List ST} {seen : List Int}, setGo l env seen ss = 0 → setGo l env seen (ss ++ [⟨v, true, .mk 0 0 []⟩]) = if v < 0 ∨ (l.length : Int) ≤ v ∨ envAt l v ≠ env ∨ v ∈ seen ∨ v ∈ ss.map ST.var then 3 else 0
  | [], seen, _ => by
    rw [List.nil_append, setGo, setGo]
    have hz : zeroE (.mk 0 0 []) = true := by rfl
    simp [hz]
  | a :: r, seen, h => by
    rw [List.cons_append]
    rw [setGo] at h ⊢
    have hb : ¬ (a.var < 0 ∨ (l.length : Int) ≤ a.var ∨ envAt l a.var ≠ env ∨ a.var ∈ seen) := fun hb => by rw [if_pos hb] at h; cases h
    rw [if_neg hb] at h ⊢
    have e : (v ∈ a.var :: seen ∨ v ∈ r.map ST.var) ↔ (v ∈ seen ∨ v ∈ (a :: r).map ST.var) := by
      simp only [List.map_cons, List.mem_cons]
      constructor
      · rintro ((h | h) | h)
        · exact .inr (.inl h)
        · exact .inl h
        · exact .inr (.inr h)
      · rintro (h | h | h)
        · exact .inl (.inr h)
        · exact .inl (.inl h)
        · exact .inr h
    split at h
    · rename_i ha
      rw [if_pos ha]
      split at h
      · rename_i hz
        rw [if_pos hz, setGo_snoc v h]; simp only [e]
      · cases h
    · rename_i ha
      rw [if_neg ha]
      split at h
      · rename_i hz
        rw [if_pos hz, setGo_snoc v h]; simp only [e]
      · rename_i hn; exact absurd h hn
def gT (v : Int) : T := .mk 8 0 [.mk 2 0 [], .mk 9 0 [.mk 4 v [], .mk 4 v []]]
theorem gT_may {v : Int} (h0 : 0 ≤ v) (h6 : v < 6) : mayE (gT v) = 0 ∧ readsE (gT v) true = [v] ∧ readsE (gT v) false = [] := by
  have h : v = 0 ∨ v = 1 ∨ v = 2 ∨ v = 3 ∨ v = 4 ∨ v = 5 := by omega
  rcases h with rfl | rfl | rfl | rfl | rfl | rfl <;> decide +kernel
theorem gT_ty (l : List Dom.V) {v : Int} (h0 : 0 ≤ v) (hl : v < l.length) : tyT l (gT v) = (1, 0) := by
  have hn : ¬ (l.length : Int) ≤ v := by omega
  unfold gT
  simp [tyT, tyK, tyN, hn]
theorem gT_need {l : List Dom.V} {v : Int} (hm : Dom.mayL l = 0) (h0 : 0 ≤ v) (hl : v < l.length) (env : Bool) : needE l (gT v) 1 true (!env) false = if env = true ∨ envAt l v = false then 5 else 0 := by
  have h6 : l.length ≤ 6 := Dom.totL_len (Dom.mayL_zero hm).2
  obtain ⟨g1, g2, g3⟩ := gT_may h0 (by omega)
  have hs : sortE l (gT v) = (1, 0) := by unfold sortE; rw [if_pos hm, if_pos g1, gT_ty l h0 hl]
  unfold needE
  rw [hs, g2, g3]
  cases env <;> cases hv : envAt l v <;> simp [nextBad, nowBad, hv]
theorem sides_laws {l : List Dom.V} {c : CT} {env : Bool} (h : cmdE l c env = 0) {v : Int} (h0 : 0 ≤ v) (hl : v < l.length) (h6 : c.sets.length < 6) :
    cmdE l { c with sets := c.sets ++ [⟨v, true, .mk 0 0 []⟩] } env = (if envAt l v ≠ env ∨ v ∈ c.sets.map ST.var then 3 else 0) ∧ cmdE l { c with guard := gT v } env = (if env = true ∨ envAt l v = false then 5 else 0) := by
  obtain ⟨h1, h2, h3, h4⟩ := cmdE_parts h
  constructor
  · unfold cmdE
    simp only
    rw [if_pos h1, if_pos h2, if_neg (by simp; omega), setGo_snoc v h4]
    have : ¬ v < 0 := by omega
    have h' : ¬ (l.length : Int) ≤ v := by omega
    simp [this, h']
  · unfold cmdE
    simp only
    rw [if_pos h1, gT_need h1 h0 hl env, h4]
    by_cases hq : env = true ∨ envAt l v = false
    · rw [if_pos hq]; simp
    · rw [if_neg hq]; simp; omega
/- other names -/
def shp (l : List Dom.V) : List (Bool × Int) := l.map (fun v => (v.env, v.srt))
section
variable {l l2 : List Dom.V} (hs : shp l = shp l2)
include hs
theorem shp_len : l.length = l2.length := by have := congrArg List.length hs; simpa [shp] using this
theorem shp_at (i : Nat) : (l[i]?).map (fun v => (v.env, v.srt)) = (l2[i]?).map (fun v => (v.env, v.srt)) := by
  have := congrArg (fun x => x[i]?) hs; simpa [shp] using this
theorem shp_srt (i : Nat) : ((l[i]?).map Dom.V.srt).getD 0 = ((l2[i]?).map Dom.V.srt).getD 0 := by
  have h := shp_at hs i
  cases h1 : l[i]? <;> cases h2 : l2[i]? <;> rw [h1, h2] at h <;> simp at h ⊢
  exact h.2
theorem shp_env (i : Nat) : ((l[i]?).map Dom.V.env).getD false = ((l2[i]?).map Dom.V.env).getD false := by
  have h := shp_at hs i
  cases h1 : l[i]? <;> cases h2 : l2[i]? <;> rw [h1, h2] at h <;> simp at h ⊢
  exact h.1
theorem shp_tyN (op n : Int) (ss : List Int) : tyN l op n ss = tyN l2 op n ss := by
  unfold tyN
  rw [shp_len hs, shp_srt hs]
theorem shp_ty : ∀ t, tyT l t = tyT l2 t := by
  intro t
  exact T.rec (motive_1 := fun t => tyT l t = tyT l2 t) (motive_2 := fun ks => tyK l ks = tyK l2 ks) (fun o n ks ih => by rw [tyT, tyT, ih, shp_tyN hs]) (by rw [tyK, tyK]) (fun k r h1 h2 => by rw [tyK, tyK, h1, h2]) t
theorem shp_envAt (x : Int) : envAt l x = envAt l2 x := shp_env hs _
theorem shp_srtAt (x : Int) : srtAt l x = srtAt l2 x := shp_srt hs _
theorem shp_next (a b : Bool) : ∀ xs, nextBad l a b xs = nextBad l2 a b xs
  | [] => rfl
  | x :: r => by rw [nextBad, nextBad, shp_next a b r, shp_envAt hs]
theorem shp_now (a : Bool) : ∀ xs, nowBad l a xs = nowBad l2 a xs
  | [] => rfl
  | x :: r => by rw [nowBad, nowBad, shp_now a r, shp_envAt hs]
variable (h1 : Dom.mayL l = 0) (h2 : Dom.mayL l2 = 0)
include h1 h2
theorem shp_need (t : T) (want : Int) (now env sys : Bool) : needE l t want now env sys = needE l2 t want now env sys := by
  have e : sortE l t = sortE l2 t := by unfold sortE; rw [if_pos h1, if_pos h2, shp_ty hs]
  unfold needE
  rw [e, shp_next hs, shp_now hs]
theorem shp_set (env : Bool) : ∀ (ss : List ST) (seen : List Int), setGo l env seen ss = setGo l2 env seen ss
  | [], seen => by rw [setGo, setGo]
  | a :: r, seen => by rw [setGo, setGo, shp_len hs, shp_envAt hs, shp_srtAt hs, shp_need hs h1 h2, shp_set env r]
theorem shp_cmd (c : CT) (env : Bool) : cmdE l c env = cmdE l2 c env := by
  unfold cmdE; rw [if_pos h1, if_pos h2, shp_need hs h1 h2, shp_set hs h1 h2]
theorem shp_cmds (env : Bool) : ∀ cs, cmdsE l env cs = cmdsE l2 env cs
  | [] => by rw [cmdsE, cmdsE]
  | c :: r => by rw [cmdsE, cmdsE, shp_cmd hs h1 h2, shp_cmds env r]
theorem shp_goals : ∀ ts, goalsE l ts = goalsE l2 ts
  | [] => by rw [goalsE, goalsE]
  | t :: r => by rw [goalsE, goalsE, shp_need hs h1 h2, shp_goals r]
end
theorem shp_mod {m : MT} {l : List Dom.V} (hs : shp m.vars = shp l) (hl : Dom.mayL l = 0) (h : modE m = 0) : modE { m with vars := l } = 0 := by
  obtain ⟨h1, h2, h3, h4, h5, h6, h7, h8, h9, h10⟩ := (modE_iff m).1 h
  refine (modE_iff _).2 ⟨hl, ?_, ?_, h4, ?_, ?_, h7, ?_, ?_, ?_⟩ <;> simp only
  · rw [← shp_need hs h1 hl]; exact h2
  · rw [← shp_need hs h1 hl]; exact h3
  · rw [← shp_cmds hs h1 hl]; exact h5
  · rw [← shp_cmds hs h1 hl]; exact h6
  · rw [← shp_goals hs h1 hl]; exact h8
  · rw [← shp_goals hs h1 hl]; exact h9
  · rw [← shp_goals hs h1 hl]; exact h10
theorem mayGo_iff : ∀ (l : List Dom.V) (seen : List (List UInt8)), Dom.mayGo seen l = 0 ↔ (∀ v ∈ l, Dom.nameB v.nm = true ∧ v.may = 0 ∧ v.key ∉ seen) ∧ (l.map Dom.V.key).Nodup
  | [], seen => by simp [Dom.mayGo]
  | v :: r, seen => by
    rw [Dom.mayGo, List.map_cons, List.nodup_cons]
    have ih := mayGo_iff r (seen ++ [v.key])
    by_cases hb : Dom.nameB v.nm = false ∨ v.key ∈ seen
    · rw [if_pos hb]
      refine ⟨fun h => absurd h (by decide), fun h => ?_⟩
      have := h.1 v (by simp)
      rcases hb with hb | hb
      · rw [hb] at this; cases this.1
      · exact absurd hb this.2.2
    · rw [if_neg hb]
      have hn : Dom.nameB v.nm = true := by cases hq : Dom.nameB v.nm with
        | false => exact absurd (.inl hq) hb
        | true => rfl
      have hk : v.key ∉ seen := fun h => hb (.inr h)
      by_cases hm : v.may ≠ 0
      · rw [if_pos hm]
        exact ⟨fun h => absurd h hm, fun h => absurd (h.1 v (by simp)).2.1 hm⟩
      · rw [if_neg hm, ih]
        have hm' : v.may = 0 := Decidable.byContradiction hm
        constructor
        · rintro ⟨h1, h2⟩
          refine ⟨fun u hu => ?_, ?_, h2⟩
          · rcases List.mem_cons.1 hu with rfl | hu
            · exact ⟨hn, hm', hk⟩
            · obtain ⟨q1, q2, q3⟩ := h1 u hu
              exact ⟨q1, q2, fun h => q3 (by simp [h])⟩
          · intro hmem
            obtain ⟨u, hu, e⟩ := List.mem_map.1 hmem
            exact (h1 u hu).2.2 (by simp [e])
        · rintro ⟨h1, h2, h3⟩
          refine ⟨fun u hu => ?_, h3⟩
          obtain ⟨q1, q2, q3⟩ := h1 u (by simp [hu])
          refine ⟨q1, q2, fun h => ?_⟩
          rcases List.mem_append.1 h with h | h
          · exact q3 h
          · simp at h
            exact h2 (List.mem_map.2 ⟨u, hu, h⟩)
theorem mayL_iff (l : List Dom.V) : Dom.mayL l = 0 ↔ Dom.mayGo [] l = 0 ∧ Dom.totL l ≠ 0 := by
  refine ⟨Dom.mayL_zero, fun h => ?_⟩
  unfold Dom.mayL
  rw [if_neg (by simp [h.1]), if_neg h.2]
theorem totGo_set : ∀ (l : List Dom.V) (k : Nat) (v u : Dom.V) (t : Int), l[k]? = some v → u.may = v.may → u.size = v.size → Dom.totGo t (l.set k u) = Dom.totGo t l
  | [], k, v, u, t, h, _, _ => by simp at h
  | a :: r, 0, v, u, t, h, e1, e2 => by
    simp at h; subst h
    rw [List.set_cons_zero, Dom.totGo, Dom.totGo, e1, e2]
  | a :: r, k + 1, v, u, t, h, e1, e2 => by
    rw [List.set_cons_succ, Dom.totGo, Dom.totGo, totGo_set r k v u _ (by simpa using h) e1 e2]
theorem nodup_set {α : Type} {y : α} : ∀ {xs : List α} {k : Nat}, xs.Nodup → y ∉ xs → (xs.set k y).Nodup
  | [], k, h, _ => by simp
  | a :: r, 0, h, hy => by
    rw [List.nodup_cons] at h
    rw [List.set_cons_zero, List.nodup_cons]
    exact ⟨fun hm => hy (by simp [hm]), h.2⟩
  | a :: r, k + 1, h, hy => by
    rw [List.nodup_cons] at h
    rw [List.set_cons_succ, List.nodup_cons]
    refine ⟨fun hm => ?_, nodup_set h.2 (fun hm => hy (by simp [hm]))⟩
    rcases List.mem_or_eq_of_mem_set hm with hm | hm
    · exact h.1 hm
    · exact hy (by simp [hm])
theorem mayL_set {l : List Dom.V} {k : Nat} {v u : Dom.V} (h : Dom.mayL l = 0) (hk : l[k]? = some v) (e1 : u.may = v.may) (e2 : u.size = v.size) (hn : Dom.nameB u.nm = true) (hu : ∀ x ∈ l, x.key ≠ u.key) : Dom.mayL (l.set k u) = 0 := by
  obtain ⟨h1, h2⟩ := (mayL_iff l).1 h
  obtain ⟨q1, q2⟩ := (mayGo_iff l []).1 h1
  refine (mayL_iff _).2 ⟨(mayGo_iff _ _).2 ⟨fun x hx => ?_, ?_⟩, ?_⟩
  · rcases List.mem_or_eq_of_mem_set hx with hx | rfl
    · exact q1 x hx
    · exact ⟨hn, e1.trans (q1 v (List.mem_of_getElem? hk)).2.1, by simp⟩
  · rw [List.map_set]
    exact nodup_set q2 (fun hm => by
      obtain ⟨x, hx, e⟩ := List.mem_map.1 hm
      exact hu x hx e)
  · unfold Dom.totL at h2 ⊢
    rw [List.length_set, totGo_set l k v u 1 hk e1 e2]; exact h2
theorem mayGo_twice (v : Dom.V) : ∀ (l : List Dom.V) (seen : List (List UInt8)), Dom.mayGo seen l = 0 → (v.key ∈ seen ∨ v.key ∈ l.map Dom.V.key) → Dom.mayGo seen (l ++ [v]) = 3
  | [], seen, _, h => by
    rw [List.nil_append, Dom.mayGo, if_pos]
    right; simpa using h
  | a :: r, seen, h0, h => by
    rw [Dom.mayGo] at h0
    rw [List.cons_append, Dom.mayGo]
    split at h0
    · cases h0
    · rename_i hb
      rw [if_neg hb]
      split at h0
      · rename_i hm; exact absurd h0 hm
      · rename_i hm
        rw [if_neg hm]
        refine mayGo_twice v r _ h0 ?_
        simp only [List.map_cons, List.mem_cons] at h
        rcases h with h | h | h
        · exact .inl (by simp [h])
        · exact .inl (by simp [h])
        · exact .inr h
theorem mayL_twice {l : List Dom.V} {k : Nat} {v : Dom.V} (h : Dom.mayL l = 0) (hk : l[k]? = some v) : Dom.mayL (l ++ [v]) = 3 := by
  have := mayGo_twice v l [] ((mayL_iff l).1 h).1 (.inr (List.mem_map.2 ⟨v, List.mem_of_getElem? hk, rfl⟩))
  unfold Dom.mayL
  rw [this]; simp
theorem varsS_set : ∀ (l : List Dom.V) (k : Nat) (v : Dom.V) (q : ByteArray), l[k]? = some v → varsS l (l.set k { v with nm := q }) = (v.nm.data == q.data)
  | [], k, v, q, h => by simp at h
  | a :: r, 0, v, q, h => by
    simp at h; subst h
    rw [List.set_cons_zero, varsS, varsS_refl]; simp
  | a :: r, k + 1, v, q, h => by
    rw [List.set_cons_succ, varsS, varsS_set r k v q (by simpa using h)]; simp
theorem shp_set_at : ∀ (l : List Dom.V) (k : Nat) (v : Dom.V) (q : ByteArray), l[k]? = some v → shp (l.set k { v with nm := q }) = shp l
  | [], k, v, q, h => by simp at h
  | a :: r, 0, v, q, h => by
    simp at h; subst h
    rw [List.set_cons_zero]; simp [shp]
  | a :: r, k + 1, v, q, h => by
    have := shp_set_at r k v q (by simpa using h)
    rw [List.set_cons_succ]
    unfold shp at this ⊢
    rw [List.map_cons, List.map_cons, this]
def q7 : ByteArray := ⟨#[113, 95, 55]⟩
theorem q7_name : Dom.nameB q7 = true := by decide +kernel
theorem set_self {l : List Dom.V} {k : Nat} {v : Dom.V} (h : l[k]? = some v) : l.set k v = l := by
  obtain ⟨hk, rfl⟩ := List.getElem?_eq_some_iff.1 h
  exact List.set_getElem_self hk
theorem names_laws {m : MT} {k : Nat} {v : Dom.V} {q : ByteArray} (h : modE m = 0) (hk : m.vars[k]? = some v) (hq : Dom.nameB q = true) (hn : v.nm = q ∨ ∀ x ∈ m.vars, x.nm.data ≠ q.data) :
    modE { m with vars := m.vars.set k { v with nm := q } } = 0 ∧ modS m { m with vars := m.vars.set k { v with nm := q } } = (v.nm.data == q.data) ∧ modE { m with vars := m.vars ++ [v] } = 3 := by
  obtain ⟨h1, h2, h3, h4, h5, h6, h7, h8, h9, h10⟩ := (modE_iff m).1 h
  refine ⟨?_, ?_, ?_⟩
  · refine shp_mod (shp_set_at m.vars k v q hk).symm ?_ h
    rcases hn with rfl | hn
    · rw [set_self hk]; exact h1
    · refine mayL_set h1 hk rfl rfl hq (fun x hx e => hn x hx ?_)
      unfold Dom.V.key at e
      exact Array.toList_inj.1 e
  · obtain ⟨f1, f2, f3, f4, f5, f6, f7⟩ := mod_fit h
    unfold modS
    simp only
    rw [varsS_set m.vars k v q hk, sameE_fit f1, sameE_fit f2, cmdsS_refl f3, cmdsS_refl f4, rowS_refl f5, rowS_refl f6, rowS_refl f7]; simp
  · have e := mayL_twice h1 hk
    unfold modE
    simp only [firstE]
    rw [e]; simp
theorem findGo_neg (nm : List UInt8) : ∀ (l : List Dom.V) (i : Nat), Dom.findGo nm i l < 0 → ∀ v ∈ l, (v.nm.toList == nm) = false
  | [], i, _, v, hv => by simp at hv
  | a :: r, i, h, v, hv => by
    rw [Dom.findGo] at h
    split at h
    · omega
    · rename_i hc
      rcases List.mem_cons.1 hv with rfl | hv
      · simpa using hc
      · exact findGo_neg nm r (i + 1) h v hv
end Go.Proofs.YtjpphjmehgflpaaGreatDoor
