/- How long texts are. -/
import Derived.Test.YtjpphjmehgflpaaGreatDoorHExpr
namespace Go.Proofs.YtjpphjmehgflpaaGreatDoor
open Go.RowKit Ex
set_option linter.unusedSimpArgs false
set_option linter.unusedVariables false

theorem word_len (op : Int) : (wordT op).length ≤ 3 := by
  unfold wordT
  repeat' split
  all_goals simp
theorem nm_len16 {l : List Dom.V} (h : Dom.mayL l = 0) {s : List UInt8} (hs : s ∈ nmL l) : s.length ≤ 16 := by
  obtain ⟨v, hv, rfl⟩ := List.mem_map.1 hs
  exact ((names_ok h).1 v hv).1.len
theorem itoa_len {n : Int} (h : RN n) : (Lib.itoa n).length ≤ 21 := Lib.itoa_length_le n (by have := h.1; omega) (by have := h.2; omega)
theorem ex_len {l : List Dom.V} (hm : Dom.mayL l = 0) : ∀ {t : T}, GT (nmL l).length RN t → ((exT l t).length : Int) ≤ 64 * fz t := by
  intro t h
  induction h with
  | num n hn => rw [ex_num]; have := itoa_len hn; simp [fz, fzK]; omega
  | boo n hn => rw [ex_boo]; simp only [fz, fzK]; split <;> simp
  | var k hk =>
    have hx := nm_len16 hm (nm_at (nm := nmL l) hk)
    have : exT l (.mk 3 (k : Int) []) = (nmL l).getD (k : Int).toNat [] := by simp [exT, txT, txK, txN]
    rw [this]; simp only [fz, fzK]; omega
  | nxt k hk =>
    have hx := nm_len16 hm (nm_at (nm := nmL l) hk)
    have : exT l (.mk 4 (k : Int) []) = (nmL l).getD (k : Int).toNat [] ++ [39] := by simp [exT, txT, txK, txN]
    rw [this]; simp only [fz, fzK, List.length_append, List.length_cons, List.length_nil]; omega
  | neg a _ ih => rw [ex_neg]; simp only [fz, fzK, List.length_append, List.length_cons, List.length_nil]; omega
  | bin op a b h1 h2 _ _ ih1 ih2 =>
    rw [ex_bin l op a b h1 h2]
    have := word_len op
    simp only [fz, fzK, List.length_append, List.length_cons, List.length_nil]; omega
  | ite a b c _ _ _ ih1 ih2 ih3 => rw [ex_ite]; simp only [fz, fzK, List.length_append, List.length_cons, List.length_nil]; omega
theorem ex_len2 {l : List Dom.V} {t : T} (h : (sortE l t).2 = 0) : (exT l t).length ≤ 3840 := by
  obtain ⟨h1, h2, h3⟩ := sort_gt h
  have := ex_len h1 h3
  have h4 := ((fits_iff t).1 ((may_iff t).1 h2).1).1
  omega
theorem set_len {l : List Dom.V} {s : ST} (hm : Dom.mayL l = 0) (h : SetOk l s) : (setT l s).length ≤ 3860 := by
  unfold setT
  have hi : s.var.toNat < (nmL l).length := by rw [nm_len]; have := h.lo; have := h.hi; omega
  have hx : ((nmL l).getD s.var.toNat []).length ≤ 16 := nm_len16 hm (by
    have := nm_at (nm := nmL l) hi
    rw [Int.toNat_natCast] at this
    exact this)
  generalize (nmL l).getD s.var.toNat [] = N at *
  simp only [List.length_append, List.length_cons, List.length_nil]
  cases hq : s.any
  · have := ex_len2 (h.gt hq)
    simp; omega
  · simp; omega
theorem sets_len {l : List Dom.V} (hm : Dom.mayL l = 0) : ∀ {ss : List ST} {pre : List UInt8}, (∀ s ∈ ss, SetOk l s) → pre.length ≤ 4 → (setsT l pre ss).length ≤ 3864 * ss.length
  | [], pre, _, _ => by simp [setsT]
  | s :: r, pre, h, hp => by
    have h1 := set_len hm (h s (by simp))
    have h2 := sets_len hm (ss := r) (pre := [44, 32]) (fun x hx => h x (by simp [hx])) (by simp)
    simp only [setsT, List.length_append, List.length_cons]; omega
theorem cmd_len {l : List Dom.V} {c : CT} (env : Bool) (h : CmdOk l c) : (cmdT l env c).length ≤ 27040 := by
  have h1 := ex_len2 h.guard
  have h2 := sets_len (sort_gt h.guard).1 (pre := [32, 100, 111, 32]) h.sets (by simp)
  have h3 := h.six
  unfold cmdT sideT
  simp only [List.length_append, List.length_cons, List.length_nil]
  cases env <;> simp <;> omega
theorem lines_len {α : Type} {f : α → List UInt8} {C : Nat} : ∀ {l : List α}, (∀ x ∈ l, (f x).length ≤ C) → (linesT f l).length ≤ C * l.length
  | [], _ => by simp [linesT]
  | x :: r, h => by
    have h1 := h x (by simp)
    have h2 := lines_len (l := r) (fun y hy => h y (by simp [hy]))
    simp only [linesT, List.length_append, List.length_cons, Nat.mul_add, Nat.mul_one]; omega
theorem rule_len {l : List Dom.V} {t : T} {x : List UInt8} (hx : x.length ≤ 8) (h : (sortE l t).2 = 0) : (ruleT x l t).length ≤ 3851 := by
  have := ex_len2 h
  unfold ruleT
  simp only [List.length_append, List.length_cons, List.length_nil]; omega
theorem var_len {v : Dom.V} (h : NameOk v.key) (hm : v.may = 0) : (varT v).length ≤ 100 := by
  have h1 := h.len
  have h2 : (rangeT v).length ≤ 44 := by
    unfold rangeT
    split
    · simp
    · rename_i hs
      have hr : -1000 ≤ v.lo ∧ v.lo ≤ 1000 ∧ -1000 ≤ v.hi ∧ v.hi ≤ 1000 := by
        unfold Dom.V.may Dom.mayOfV at hm
        rw [if_neg hs] at hm
        split at hm
        · split at hm
          · rename_i h2; have := Dom.range_true h2; omega
          · cases hm
        · cases hm
      have a1 := itoa_len (n := v.lo) ⟨hr.1, hr.2.1⟩
      have a2 := itoa_len (n := v.hi) ⟨hr.2.2.1, hr.2.2.2⟩
      simp only [List.length_append, List.length_cons, List.length_nil]; omega
  unfold varT sideT
  simp only [List.length_append, List.length_cons, List.length_nil]
  cases v.env <;> simp <;> omega
theorem vars_six {l : List Dom.V} (h : Dom.mayL l = 0) : l.length ≤ 6 := by
  have := ((mayL_iff l).1 h).2
  unfold Dom.totL at this
  split at this
  · exact absurd rfl this
  · omega
theorem mod_len {m : MT} (h : ModOk m) : (modT m).length ≤ 1000000 := by
  have l1 := lines_len (f := varT) (C := 100) (l := m.vars) (fun v hv => var_len ((names_ok h.vars).1 v hv).1 ((names_ok h.vars).1 v hv).2)
  have l2 := vars_six h.vars
  have l3 := rule_len (x := wIE) (by simp [wIE]) h.ie
  have l4 := rule_len (x := wIS) (by simp [wIS]) h.is
  have cl : ∀ (env : Bool) (cs : List CT), (∀ c ∈ cs, CmdOk m.vars c) → (linesT (cmdLn m.vars env) cs).length ≤ 27041 * cs.length := fun env cs hc => lines_len (fun c hx => by
    have := cmd_len env (hc c hx)
    show (cmdT m.vars env c ++ [10]).length ≤ _
    simp only [List.length_append, List.length_cons, List.length_nil]; omega)
  have l5 := cl true m.env h.env
  have l6 := cl false m.sys h.sys
  have rl : ∀ (x : List UInt8) (ts : List T), x.length ≤ 8 → (∀ t ∈ ts, (sortE m.vars t).2 = 0) → (linesT (ruleT x m.vars) ts).length ≤ 3851 * ts.length := fun x ts hx ht => lines_len (fun t hm => rule_len hx (ht t hm))
  have l7 := rl wAs m.asm (by simp [wAs]) h.asm
  have l8 := rl wEn m.ens (by simp [wEn]) h.ens
  have l9 := rl wPr m.prio (by simp [wPr]) h.prio
  have sz := h.sz
  unfold modT
  simp only [List.length_append]; omega
end Go.Proofs.YtjpphjmehgflpaaGreatDoor
