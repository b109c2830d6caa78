/- A module's text, line by line, as data. -/
import Derived.Test.YtjpphjmehgflpaaDoorHLen
namespace Go.Proofs.YtjpphjmehgflpaaDoor
open Go.RowKit Ex
set_option linter.unusedSimpArgs false
set_option linter.unusedVariables false

def No10 (s : List UInt8) : Prop := ∀ c ∈ s, c ≠ 10
theorem No10.append {a b : List UInt8} (h : No10 a) (k : No10 b) : No10 (a ++ b) := fun c hc => (List.mem_append.1 hc).elim (h c) (k c)
theorem no_itoa (n : Int) : No10 (Lib.itoa n) := fun c hc e => by
  have := itoa_mem n c hc
  subst e; revert this; decide
theorem no_name {s : List UInt8} (h : ∃ b : ByteArray, b.data.toList = s ∧ Dom.nameB b = true) : No10 s := fun c hc e => by
  obtain ⟨b, rfl, hb⟩ := h
  unfold Dom.nameB at hb
  simp only [Bool.and_eq_true, decide_eq_true_eq, Bool.not_eq_true'] at hb
  have := List.all_eq_true.1 hb.1.2 c hc
  subst e; revert this; decide
theorem no_nm {l : List Dom.V} (h : Dom.mayL l = 0) {s : List UInt8} (hs : s ∈ nmL l) : No10 s := by
  obtain ⟨v, hv, rfl⟩ := List.mem_map.1 hs
  exact no_name ⟨v.nm, rfl, (((mayGo_iff l []).1 ((mayL_iff l).1 h).1).1 v hv).1⟩
theorem no_word (op : Int) : No10 (wordT op) := by
  unfold wordT
  repeat' split
  all_goals (unfold No10; decide)
theorem no_ex {l : List Dom.V} (hm : Dom.mayL l = 0) : ∀ {t : T}, GT (nmL l).length RN t → No10 (exT l t) := by
  intro t h
  induction h with
  | num n hn => rw [ex_num]; exact no_itoa n
  | boo n hn => rw [ex_boo]; split <;> (unfold No10; decide)
  | var k hk =>
    have : exT l (.mk 3 (k : Int) []) = (nmL l).getD (k : Int).toNat [] := by simp [exT, txT, txK, txN]
    rw [this]; exact no_nm hm (nm_at (nm := nmL l) hk)
  | nxt k hk =>
    have : exT l (.mk 4 (k : Int) []) = (nmL l).getD (k : Int).toNat [] ++ [39] := by simp [exT, txT, txK, txN]
    rw [this]; exact (no_nm hm (nm_at (nm := nmL l) hk)).append (by unfold No10; decide)
  | neg a _ ih => rw [ex_neg]; exact No10.append (by unfold No10; decide) (ih.append (by unfold No10; decide))
  | bin op a b h1 h2 _ _ ih1 ih2 => rw [ex_bin l op a b h1 h2]; exact ((No10.append (by unfold No10; decide) (ih1.append (by unfold No10; decide))).append (no_word op)).append (No10.append (by unfold No10; decide) (ih2.append (by unfold No10; decide)))
  | ite a b c _ _ _ ih1 ih2 ih3 => rw [ex_ite]; exact ((No10.append (by unfold No10; decide) (ih1.append (by unfold No10; decide))).append ih2).append (No10.append (by unfold No10; decide) (ih3.append (by unfold No10; decide)))
theorem no_ex2 {l : List Dom.V} {t : T} (h : (sortE l t).2 = 0) : No10 (exT l t) := no_ex (sort_gt h).1 (sort_gt h).2.2
def LnOk (s : List UInt8) (k : Nat) : Prop := s.count 10 = k ∧ (∀ i : Nat, s[i]? = some 10 → 0 < i ∧ s[i - 1]? = some 59) ∧ (s = [] ∨ s.getLast? = some 10)
theorem LnOk.append {a b : List UInt8} {j k : Nat} (h : LnOk a j) (q : LnOk b k) : LnOk (a ++ b) (j + k) := by
  refine ⟨by rw [List.count_append, h.1, q.1], fun i hi => ?_, ?_⟩
  · by_cases hl : i < a.length
    · rw [List.getElem?_append_left hl] at hi
      obtain ⟨h1, h2⟩ := h.2.1 i hi
      exact ⟨h1, by rw [List.getElem?_append_left (by omega)]; exact h2⟩
    · rw [List.getElem?_append_right (by omega)] at hi
      obtain ⟨h1, h2⟩ := q.2.1 _ hi
      exact ⟨by omega, by rw [List.getElem?_append_right (by omega), show i - 1 - a.length = i - a.length - 1 by omega]; exact h2⟩
  · rcases q.2.2 with hb | hb
    · subst hb; rw [List.append_nil]; exact h.2.2
    · right; rw [List.getLast?_append, hb]; rfl
theorem LnOk.nil : LnOk [] 0 := ⟨rfl, fun i hi => by simp at hi, .inl rfl⟩
theorem LnOk.line {a : List UInt8} (h : No10 a) : LnOk (a ++ [59, 10]) 1 := by
  refine ⟨?_, fun i hi => ?_, .inr (by simp)⟩
  · rw [List.count_append, List.count_eq_zero.2 (fun hm => h 10 hm rfl)]; rfl
  · by_cases hl : i < a.length
    · rw [List.getElem?_append_left hl] at hi
      exact absurd rfl (h 10 (List.mem_of_getElem? hi))
    · rw [List.getElem?_append_right (by omega)] at hi
      match hd : i - a.length, hi with
      | 0, hi => simp at hi
      | 1, hi =>
        refine ⟨by omega, ?_⟩
        rw [List.getElem?_append_right (by omega), show i - 1 - a.length = 0 by omega]; rfl
      | n + 2, hi => simp at hi
theorem LnOk.lines {α : Type} {f : α → List UInt8} : ∀ {l : List α}, (∀ x ∈ l, LnOk (f x) 1) → LnOk (linesT f l) l.length
  | [], _ => LnOk.nil
  | x :: r, h => by
    rw [linesT, List.length_cons, Nat.add_comm]
    exact (h x (by simp)).append (LnOk.lines (fun y hy => h y (by simp [hy])))
theorem ln_rule {l : List Dom.V} {t : T} {x : List UInt8} (hx : No10 x) (h : (sortE l t).2 = 0) : LnOk (ruleT x l t) 1 := by
  unfold ruleT
  have : x ++ ([32] ++ (exT l t ++ [59, 10])) = (x ++ ([32] ++ exT l t)) ++ [59, 10] := by simp
  rw [this]
  exact LnOk.line (hx.append (No10.append (by unfold No10; decide) (no_ex2 h)))
theorem no_side (q : Bool) : No10 (sideT q) := by cases q <;> (unfold No10 sideT; decide)
theorem ln_var {v : Dom.V} (hn : Dom.nameB v.nm = true) : LnOk (varT v) 1 := by
  unfold varT
  have : sideT v.env ++ ([32] ++ (v.key ++ ([32, 58, 32] ++ (rangeT v ++ [59, 10])))) = (sideT v.env ++ ([32] ++ (v.key ++ ([32, 58, 32] ++ rangeT v)))) ++ [59, 10] := by simp
  rw [this]
  refine LnOk.line ((no_side _).append (No10.append (by unfold No10; decide) (No10.append (no_name ⟨v.nm, rfl, hn⟩) (No10.append (by unfold No10; decide) ?_))))
  unfold rangeT
  split
  · unfold No10; decide
  · exact (no_itoa _).append (No10.append (by unfold No10; decide) (no_itoa _))
theorem no_sets {l : List Dom.V} (hm : Dom.mayL l = 0) : ∀ {ss : List ST} {pre : List UInt8}, (∀ s ∈ ss, SetOk l s) → No10 pre → No10 (setsT l pre ss)
  | [], pre, _, _ => by intro c hc; simp [setsT] at hc
  | s :: r, pre, h, hp => by
    rw [setsT]
    have hs := h s (by simp)
    refine hp.append (No10.append ?_ (no_sets hm (fun x hx => h x (by simp [hx])) (by unfold No10; decide)))
    unfold setT
    have hi : s.var.toNat < (nmL l).length := by rw [nm_len]; have := hs.lo; have := hs.hi; omega
    refine No10.append (no_nm hm (by have := nm_at (nm := nmL l) hi; rw [Int.toNat_natCast] at this; exact this)) (No10.append (by unfold No10; decide) ?_)
    cases hq : s.any
    · simp; exact no_ex2 (hs.gt hq)
    · simp; unfold No10; decide
theorem ln_cmd {l : List Dom.V} {c : CT} (env : Bool) (h : CmdOk l c) : LnOk (cmdLn l env c) 1 := by
  have : cmdLn l env c = (sideT env ++ ([32, 119, 104, 101, 110, 32] ++ (exT l c.guard ++ setsT l [32, 100, 111, 32] c.sets))) ++ [59, 10] := by unfold cmdLn cmdT; simp
  rw [this]
  exact LnOk.line ((no_side _).append (No10.append (by unfold No10; decide) ((no_ex2 h.guard).append (no_sets (sort_gt h.guard).1 h.sets (by unfold No10; decide)))))
theorem ln_mod {m : MT} (h : ModOk m) : LnOk (modT m) (m.vars.length + (1 + (1 + (m.env.length + (m.sys.length + (m.asm.length + (m.ens.length + m.prio.length))))))) := by
  unfold modT
  have rl : ∀ (x : List UInt8) (ts : List T), No10 x → (∀ t ∈ ts, (sortE m.vars t).2 = 0) → LnOk (linesT (ruleT x m.vars) ts) ts.length := fun x ts hx ht => LnOk.lines (fun t hm => ln_rule hx (ht t hm))
  exact (LnOk.lines (fun v hv => ln_var (((mayGo_iff m.vars []).1 ((mayL_iff m.vars).1 h.vars).1).1 v hv).1)).append ((ln_rule (by unfold No10 wIE; decide) h.ie).append ((ln_rule (by unfold No10 wIS; decide) h.is).append ((LnOk.lines (fun c hc => ln_cmd true (h.env c hc))).append ((LnOk.lines (fun c hc => ln_cmd false (h.sys c hc))).append ((rl wAs _ (by unfold No10 wAs; decide) h.asm).append ((rl wEn _ (by unfold No10 wEn; decide) h.ens).append (rl wPr _ (by unfold No10 wPr; decide) h.prio)))))))
end Go.Proofs.YtjpphjmehgflpaaDoor
