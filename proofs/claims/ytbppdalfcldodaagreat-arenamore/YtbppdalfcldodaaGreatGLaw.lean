/- What may be chosen, as data. What follows of modules as data: one command more or less, the sides, the goals, other names. What the statements of stage 6 say, as data. What the statements of stage 6 say, as data: the system's answers, commands that fail, one command more, the beginnings. -/
import Derived.Test.YtbppdalfcldodaaGreatGMd
import Derived.Test.YtbppdalfcldodaaGreatGVal
import Derived.Test.YtbppdalfcldodaaGreatGPart
import Derived.Test.YtbppdalfcldodaaGreatGReads
namespace Go.Proofs.YtbppdalfcldodaaGreat
open Go.RowKit Ex
set_option linter.unusedSimpArgs false
set_option linter.unusedVariables false

theorem row12 {w : World} {b : Nat} {x : M8} (h : BoxM w b x) : w.cell? ⟨b, 0, none⟩ = some (.slice x.vars.A x.vars.n x.vars.c) ∧ w.cell? ⟨b, 1, none⟩ = some (.int .i64 x.ie.op) ∧ w.cell? ⟨b, 2, none⟩ = some (.int .i64 x.ie.n) ∧ w.cell? ⟨b, 3, none⟩ = some (.slice x.ie.A x.ie.len x.ie.cap) ∧
    w.cell? ⟨b, 4, none⟩ = some (.int .i64 x.is.op) ∧ w.cell? ⟨b, 5, none⟩ = some (.int .i64 x.is.n) ∧ w.cell? ⟨b, 6, none⟩ = some (.slice x.is.A x.is.len x.is.cap) ∧ w.cell? ⟨b, 7, none⟩ = some (.slice x.env.A x.env.n x.env.c) ∧ w.cell? ⟨b, 8, none⟩ = some (.slice x.sys.A x.sys.n x.sys.c) ∧
    w.cell? ⟨b, 9, none⟩ = some (.slice x.asm.A x.asm.n x.asm.c) ∧ w.cell? ⟨b, 10, none⟩ = some (.slice x.ens.A x.ens.n x.ens.c) ∧ w.cell? ⟨b, 11, none⟩ = some (.slice x.prio.A x.prio.n x.prio.c) :=
  ⟨h 0 _ rfl, h 1 _ rfl, h 2 _ rfl, h 3 _ rfl, h 4 _ rfl, h 5 _ rfl, h 6 _ rfl, h 7 _ rfl, h 8 _ rfl, h 9 _ rfl, h 10 _ rfl, h 11 _ rfl⟩
def pickB (l : List Dom.V) (p : Int) : Bool := decide (0 ≤ p) && (Dom.partL l p true == p)
def scanS (l : List Dom.V) (st nx i : Int) : List ST → Int → Bool → Option (Int × Bool)
  | [], w, a => some (w, a)
  | s :: r, w, a => if s.var = i then (if s.any = true then scanS l st nx i r w true else if (valE l s.e st nx).2 = 0 then scanS l st nx i r (valE l s.e st nx).1 false else none) else scanS l st nx i r w a
def atR (r : Option (Int × Bool)) (z : Int) : Bool := match r with
  | none => false
  | some (x, a) => a || (z == x)
def doesAt (l : List Dom.V) (c : CT) (env : Bool) (st nx : Int) (ws zs : List Int) (i : Nat) (v : Dom.V) : Bool :=
  if v.env = env then atR (scanS l st nx (i : Int) c.sets (ws.getD i 0) false) (zs.getD i 0) else true
def doesGo (l : List Dom.V) (c : CT) (env : Bool) (st nx : Int) (ws zs : List Int) : Nat → List Dom.V → Bool
  | _, [] => true
  | i, v :: r => doesAt l c env st nx ws zs i v && doesGo l c env st nx ws zs (i + 1) r
def doesB (l : List Dom.V) (c : CT) (env : Bool) (st nx to : Int) : Bool := trueE l c.guard st nx && doesGo l c env st nx (Dom.valsL l st) (Dom.valsL l to) 0 l
/- those of the first k numbers of which f is true, in order -/
def upTo (f : Int → Bool) : Nat → List Int
  | 0 => []
  | k + 1 => upTo f k ++ (if f (k : Int) = true then [(k : Int)] else [])
theorem upTo_len (f : Int → Bool) : ∀ k, (upTo f k).length ≤ k
  | 0 => Nat.le_refl _
  | k + 1 => by
    rw [upTo, List.length_append]
    have := upTo_len f k
    split <;> simp <;> omega
def totN (m : MT) : Nat := (Dom.totL m.vars).toNat
def initEnvL (m : MT) : List Int := if modE m = 0 then upTo (fun p => pickB m.vars p && trueE m.vars m.ie p p) (totN m) else []
def initSysL (m : MT) (p : Int) : List Int := if modE m = 0 ∧ pickB m.vars p = true then upTo (fun s => (Dom.partL m.vars s true == p) && trueE m.vars m.is s s) (totN m) else []
def envL (m : MT) (st : Int) : List Int := if modE m = 0 ∧ 0 ≤ st ∧ st < Dom.totL m.vars then upTo (fun p => m.env.any (fun c => pickB m.vars p && doesB m.vars c true st st p)) (totN m) else []
def sysL (m : MT) (st p : Int) : List Int := if modE m = 0 ∧ 0 ≤ st ∧ st < Dom.totL m.vars ∧ pickB m.vars p = true then upTo (fun s => m.sys.any (fun c => (Dom.partL m.vars s true == p) && doesB m.vars c false st p s)) (totN m) else []
/- a row of numbers that is handed back -/
def IntsPost (w : World) (xs : List Int) (e : Ending) (w' : World) : Prop := ∃ O n c, e = .returned (.slice O n c) ∧ w'.ownsRow w.heap.size 3 1 (.slice O n c) n (ints xs) ∧ xs.length = n ∧ Below w.heap.size w w'
theorem ints_none {w w' : World} (h : Below w.heap.size w w') : IntsPost w [] (.returned (.slice none 0 0)) w' := ⟨none, 0, 0, rfl, ⟨rfl, .inl ⟨rfl, rfl⟩⟩, rfl, h⟩
theorem ints_snoc (xs : List Int) (x : Int) : ints xs ++ [Value.int .i64 x] = ints (xs ++ [x]) := by simp [ints]

set_option maxHeartbeats 400000 in
theorem rpick_any (B : Nat) (Av : Option Addr) (nv cv : Nat) (lv : List Dom.V) (p : Int) (w : World) (ho : OkVars ⟨Av, nv, cv⟩ lv) (hB : B ≤ w.heap.size) (hrv : Dom.RV w B Av nv lv) :
    Calls Tryz.prog 82 #[.slice Av nv cv, .int .i64 p] w fun e w' => e = .returned (.bool (pickB lv p)) ∧ Below w.heap.size w w' := by
  have Hs : Hid (pickB lv p = (decide (0 ≤ p) && (Dom.partL lv p true == p))) := hide rfl
  by_cases h0 : 0 ≤ p
  · have hb : decide (0 ≤ p) = true := by simp [h0]
    have Hf : Hid (pickB lv p = (Dom.partL lv p true == p)) := hide (by rw [Hs.out, hb]; rfl)
    go_enter Tryz.func82, Tryz.ntmps82
    go_wp2_with fail
    refine (Dom.rpart_any Av nv cv B lv p true w ho.1 ho.2.1 ho.2.2.1 hB hrv ho.2.2.2).mono ?_
    rintro e w1 ⟨rfl, hb1⟩
    go_wp2_with fail
    go_ret
    exact ⟨ret_bool Hf.out.symm, hb1⟩
  · have hb : decide (0 ≤ p) = false := by simp; omega
    have Hf : Hid (pickB lv p = false) := hide (by rw [Hs.out, hb]; rfl)
    go_enter Tryz.func82, Tryz.ntmps82
    go_wp2_with fail
    go_ret
    exact ⟨ret_bool Hf.out.symm, Below.refl _ _⟩
end Go.Proofs.YtbppdalfcldodaaGreat
namespace Go.Proofs.YtbppdalfcldodaaGreat
open Go.RowKit Ex
set_option linter.unusedSimpArgs false
set_option linter.unusedVariables false

theorem modE_iff (m : MT) : modE m = 0 ↔ Dom.mayL m.vars = 0 ∧ needE m.vars m.ie 1 false false false = 0 ∧ needE m.vars m.is 1 true false false = 0 ∧ sizesE m = 0 ∧ cmdsE m.vars true m.env = 0 ∧ cmdsE m.vars false m.sys = 0 ∧ bothE m = 0 ∧ goalsE m.vars m.asm = 0 ∧ goalsE m.vars m.ens = 0 ∧ goalsE m.vars m.prio = 0 := by
  have h : ∀ l : List Int, firstE l = 0 ↔ ∀ x ∈ l, x = 0 := by
    intro l
    induction l with
    | nil => simp [firstE]
    | cons x r ih =>
      rw [firstE]
      by_cases hx : x = 0
      · rw [if_pos hx, ih]; simp [hx]
      · rw [if_neg hx]; simp [hx]
  unfold modE
  rw [h]
  simp
theorem cmdsE_iff (l : List Dom.V) (env : Bool) : ∀ cs, cmdsE l env cs = 0 ↔ ∀ c ∈ cs, cmdE l c env = 0
  | [] => by simp [cmdsE]
  | c :: r => by
    rw [cmdsE]
    by_cases hc : cmdE l c env = 0
    · rw [if_pos hc, cmdsE_iff l env r]; simp [hc]
    · rw [if_neg hc]; simp [hc]
theorem cmdsE_snoc (l : List Dom.V) (env : Bool) (c : CT) : ∀ cs, cmdsE l env cs = 0 → cmdsE l env (cs ++ [c]) = cmdE l c env
  | [], _ => by rw [List.nil_append, cmdsE, cmdsE]; split <;> simp_all
  | a :: r, h => by
    rw [cmdsE] at h
    by_cases ha : cmdE l a env = 0
    · rw [if_pos ha] at h
      rw [List.cons_append, cmdsE, if_pos ha, cmdsE_snoc l env c r h]
    · rw [if_neg ha] at h; exact absurd h ha
theorem goalsE_rep (l : List Dom.V) (t : T) (h : needE l t 1 true false false = 0) : ∀ n, goalsE l (List.replicate n t) = 0
  | 0 => by simp [goalsE]
  | n + 1 => by rw [List.replicate_succ, goalsE, if_pos h, goalsE_rep l t h n]
theorem sizesE_zero {m : MT} (h : sizesE m = 0) : m.env.length ≤ 12 ∧ m.sys.length ≤ 12 ∧ m.asm.length ≤ 4 ∧ m.ens.length ≤ 4 ∧ m.prio.length ≤ 6 := by
  unfold sizesE at h
  split at h
  · cases h
  · omega
/- one command more -/
theorem more_env {m : MT} (h : modE m = 0) (c : CT) : modE { m with env := m.env ++ [c] } = if 12 ≤ m.env.length then 7 else cmdE m.vars c true := by
  obtain ⟨h1, h2, h3, h4, h5, h6, h7, h8, h9, h10⟩ := (modE_iff m).1 h
  have hs := sizesE_zero h4
  have e5 := cmdsE_snoc m.vars true c m.env h5
  have e7 : bothE { m with env := m.env ++ [c] } = 0 := h7
  unfold modE
  simp only [firstE]
  rw [h1, h2, h3, h6, h8, h9, h10, e5, e7]
  by_cases hl : 12 ≤ m.env.length
  · have e4 : sizesE { m with env := m.env ++ [c] } = 7 := by unfold sizesE; rw [if_pos]; left; simp; omega
    rw [e4, if_pos hl]; simp
  · have e4 : sizesE { m with env := m.env ++ [c] } = 0 := by unfold sizesE; rw [if_neg]; simp; omega
    rw [e4, if_neg hl]
    by_cases hc : cmdE m.vars c true = 0 <;> simp [hc]
theorem more_sys {m : MT} (h : modE m = 0) (c : CT) : modE { m with sys := m.sys ++ [c] } = if 12 ≤ m.sys.length then 7 else cmdE m.vars c false := by
  obtain ⟨h1, h2, h3, h4, h5, h6, h7, h8, h9, h10⟩ := (modE_iff m).1 h
  have hs := sizesE_zero h4
  have e6 := cmdsE_snoc m.vars false c m.sys h6
  have e7 : bothE { m with sys := m.sys ++ [c] } = 0 := h7
  unfold modE
  simp only [firstE]
  rw [h1, h2, h3, h5, h8, h9, h10, e6, e7]
  by_cases hl : 12 ≤ m.sys.length
  · have e4 : sizesE { m with sys := m.sys ++ [c] } = 7 := by unfold sizesE; rw [if_pos]; right; left; simp; omega
    rw [e4, if_pos hl]; simp
  · have e4 : sizesE { m with sys := m.sys ++ [c] } = 0 := by unfold sizesE; rw [if_neg]; simp; omega
    rw [e4, if_neg hl]
    by_cases hc : cmdE m.vars c false = 0 <;> simp [hc]
theorem less_env {m : MT} (h : modE m = 0) {l : List CT} (hl : ∀ c ∈ l, c ∈ m.env) (hn : l.length ≤ m.env.length) : modE { m with env := l } = 0 := by
  obtain ⟨h1, h2, h3, h4, h5, h6, h7, h8, h9, h10⟩ := (modE_iff m).1 h
  have hs := sizesE_zero h4
  refine (modE_iff _).2 ⟨h1, h2, h3, ?_, (cmdsE_iff _ _ _).2 (fun c hc => (cmdsE_iff _ _ _).1 h5 c (hl c hc)), h6, h7, h8, h9, h10⟩
  unfold sizesE; rw [if_neg]; simp; omega
theorem less_sys {m : MT} (h : modE m = 0) {l : List CT} (hl : ∀ c ∈ l, c ∈ m.sys) (hn : l.length ≤ m.sys.length) : modE { m with sys := l } = 0 := by
  obtain ⟨h1, h2, h3, h4, h5, h6, h7, h8, h9, h10⟩ := (modE_iff m).1 h
  have hs := sizesE_zero h4
  refine (modE_iff _).2 ⟨h1, h2, h3, ?_, h5, (cmdsE_iff _ _ _).2 (fun c hc => (cmdsE_iff _ _ _).1 h6 c (hl c hc)), h7, h8, h9, h10⟩
  unfold sizesE; rw [if_neg]; simp; omega
/- alike -/
theorem sameE_fit {t : T} (h : fitsB t = true) : sameE t t = true := by unfold sameE; rw [h, sameT_refl]; rfl
theorem need_fit {l : List Dom.V} {t : T} {want : Int} {now env sys : Bool} (h : needE l t want now env sys = 0) : fitsB t = true := by
  unfold needE at h
  by_cases hs : (sortE l t).2 = 0
  · unfold sortE at hs
    by_cases hm : Dom.mayL l = 0
    · rw [if_pos hm] at hs
      by_cases he : mayE t = 0
      · exact ((may_iff t).1 he).1
      · rw [if_neg he] at hs; exact absurd hs he
    · rw [if_neg hm] at hs; exact absurd hs hm
  · rw [if_neg hs] at h; exact absurd h hs
theorem zero_fit {t : T} (h : zeroE t = true) : fitsB t = true := by
  obtain ⟨o, n, ks⟩ := t
  unfold zeroE at h
  simp [T.op, T.n, T.kids] at h
  obtain ⟨⟨rfl, rfl⟩, rfl⟩ := h
  decide +kernel
def FitC (c : CT) : Prop := fitsB c.guard = true ∧ ∀ s ∈ c.sets, fitsB s.e = true
theorem setGo_fit {l : List Dom.V} {env : Bool} : ∀ {ss : List ST} {seen : List Int}, setGo l env seen ss = 0 → ∀ s ∈ ss, fitsB s.e = true
  | [], seen, _, s, hs => by simp at hs
  | a :: r, seen, h, s, hs => by
    rw [setGo] at h
    split at h
    · cases h
    · split at h
      · split at h
        · rename_i hz
          rcases List.mem_cons.1 hs with rfl | hs
          · exact zero_fit hz
          · exact setGo_fit h s hs
        · cases h
      · split at h
        · rename_i hn
          rcases List.mem_cons.1 hs with rfl | hs
          · exact need_fit hn
          · exact setGo_fit h s hs
        · rename_i hn; exact absurd h hn
theorem cmdE_parts {l : List Dom.V} {c : CT} {env : Bool} (h : cmdE l c env = 0) : Dom.mayL l = 0 ∧ needE l c.guard 1 true (!env) false = 0 ∧ c.sets.length ≤ 6 ∧ setGo l env [] c.sets = 0 := by
  unfold cmdE at h
  by_cases h1 : Dom.mayL l = 0
  · rw [if_pos h1] at h
    by_cases h2 : needE l c.guard 1 true (!env) false = 0
    · rw [if_pos h2] at h
      by_cases h3 : 6 < c.sets.length
      · rw [if_pos h3] at h; cases h
      · rw [if_neg h3] at h; exact ⟨h1, h2, by omega, h⟩
    · rw [if_neg h2] at h; exact absurd h h2
  · rw [if_neg h1] at h; exact absurd h h1
theorem cmd_fit {l : List Dom.V} {c : CT} {env : Bool} (h : cmdE l c env = 0) : FitC c :=
  ⟨need_fit (cmdE_parts h).2.1, setGo_fit (cmdE_parts h).2.2.2⟩
theorem goals_fit {l : List Dom.V} : ∀ {ts : List T}, goalsE l ts = 0 → ∀ t ∈ ts, fitsB t = true
  | [], _, t, ht => by simp at ht
  | a :: r, h, t, ht => by
    rw [goalsE] at h
    split at h
    · rename_i hn
      rcases List.mem_cons.1 ht with rfl | ht
      · exact need_fit hn
      · exact goals_fit h t ht
    · rename_i hn; exact absurd h hn
theorem varsS_refl : ∀ l, varsS l l = true
  | [] => by rw [varsS]
  | v :: r => by rw [varsS, varsS_refl r]; simp
theorem rowS_refl : ∀ {l : List T}, (∀ t ∈ l, fitsB t = true) → rowS l l = true
  | [], _ => by rw [rowS]
  | t :: r, h => by rw [rowS, sameE_fit (h t (by simp)), rowS_refl (fun u hu => h u (by simp [hu]))]; rfl
theorem setsS_refl : ∀ {l : List ST}, (∀ s ∈ l, fitsB s.e = true) → setsS l l = true
  | [], _ => by rw [setsS]
  | s :: r, h => by rw [setsS, sameE_fit (h s (by simp)), setsS_refl (fun u hu => h u (by simp [hu]))]; simp
theorem cmdsS_refl : ∀ {l : List CT}, (∀ c ∈ l, FitC c) → cmdsS l l = true
  | [], _ => by rw [cmdsS]
  | c :: r, h => by rw [cmdsS, sameE_fit (h c (by simp)).1, setsS_refl (h c (by simp)).2, cmdsS_refl (fun u hu => h u (by simp [hu]))]; rfl
theorem cmdsS_len : ∀ {a b : List CT}, cmdsS a b = true → a.length = b.length
  | [], [], _ => rfl
  | a :: r, b :: s, h => by
    rw [cmdsS, Bool.and_eq_true] at h
    rw [List.length_cons, List.length_cons, cmdsS_len h.2]
  | [], _ :: _, h => by rw [cmdsS] at h; cases h
  | _ :: _, [], h => by rw [cmdsS] at h; cases h
def FitM (m : MT) : Prop := fitsB m.ie = true ∧ fitsB m.is = true ∧ (∀ c ∈ m.env, FitC c) ∧ (∀ c ∈ m.sys, FitC c) ∧ (∀ t ∈ m.asm, fitsB t = true) ∧ (∀ t ∈ m.ens, fitsB t = true) ∧ (∀ t ∈ m.prio, fitsB t = true)
theorem mod_fit {m : MT} (h : modE m = 0) : FitM m := by
  obtain ⟨h1, h2, h3, h4, h5, h6, h7, h8, h9, h10⟩ := (modE_iff m).1 h
  exact ⟨need_fit h2, need_fit h3, fun c hc => cmd_fit ((cmdsE_iff _ _ _).1 h5 c hc), fun c hc => cmd_fit ((cmdsE_iff _ _ _).1 h6 c hc), goals_fit h8, goals_fit h9, goals_fit h10⟩
theorem modS_refl {m : MT} (h : FitM m) : modS m m = true := by
  obtain ⟨h1, h2, h3, h4, h5, h6, h7⟩ := h
  unfold modS
  rw [varsS_refl, sameE_fit h1, sameE_fit h2, cmdsS_refl h3, cmdsS_refl h4, rowS_refl h5, rowS_refl h6, rowS_refl h7]; rfl
theorem more_same_env {m : MT} (h : modE m = 0) {c : CT} (hc : cmdE m.vars c true = 0) : modS { m with env := m.env ++ [c] } { m with env := m.env ++ [c] } = true := by
  obtain ⟨h1, h2, h3, h4, h5, h6, h7⟩ := mod_fit h
  refine modS_refl ⟨h1, h2, fun x hx => ?_, h4, h5, h6, h7⟩
  rcases List.mem_append.1 hx with hx | hx
  · exact h3 x hx
  · simp at hx; subst hx; exact cmd_fit hc
theorem more_same_sys {m : MT} (h : modE m = 0) {c : CT} (hc : cmdE m.vars c false = 0) : modS { m with sys := m.sys ++ [c] } { m with sys := m.sys ++ [c] } = true := by
  obtain ⟨h1, h2, h3, h4, h5, h6, h7⟩ := mod_fit h
  refine modS_refl ⟨h1, h2, h3, fun x hx => ?_, h5, h6, h7⟩
  rcases List.mem_append.1 hx with hx | hx
  · exact h4 x hx
  · simp at hx; subst hx; exact cmd_fit hc
theorem cmdsS_snoc (l : List CT) (c : CT) : cmdsS (l ++ [c]) l = false := by
  cases h : cmdsS (l ++ [c]) l
  · rfl
  · have := cmdsS_len h; simp at this
theorem more_other_env (m : MT) (c : CT) : modS { m with env := m.env ++ [c] } m = false := by
  unfold modS; simp only; rw [cmdsS_snoc]; simp
theorem more_other_sys (m : MT) (c : CT) : modS { m with sys := m.sys ++ [c] } m = false := by
  unfold modS; simp only; rw [cmdsS_snoc]; simp
/- the goals -/
theorem goals_laws {m : MT} {t : T} (n : Nat) (h : modE { m with asm := [], ens := [], prio := [] } = 0) (ht : needE m.vars t 1 true false false = 0) :
    modE { m with asm := List.replicate n t, ens := [], prio := [] } = (if 4 < n then 7 else 0) ∧ modE { m with asm := [], ens := [], prio := List.replicate n t } = (if 6 < n then 7 else 0) ∧
    modE { m with asm := [], ens := List.replicate n t, prio := [t] } = (if 4 < n then 7 else if n = 0 then 0 else 1) := by
  obtain ⟨h1, h2, h3, h4, h5, h6, h7, h8, h9, h10⟩ := (modE_iff _).1 h
  simp only at h1 h2 h3 h5 h6
  have hs := sizesE_zero h4
  simp only at hs
  have hr := goalsE_rep m.vars t ht
  have h1t : goalsE m.vars [t] = 0 := hr 1
  have h0 : goalsE m.vars [] = 0 := hr 0
  refine ⟨?_, ?_, ?_⟩
  · unfold modE
    simp only [firstE]
    rw [h1, h2, h3, h5, h6, hr n, h0]
    by_cases hn : 4 < n
    · rw [if_pos hn, show sizesE { m with asm := List.replicate n t, ens := [], prio := [] } = 7 by unfold sizesE; rw [if_pos]; simp; omega]; simp
    · rw [if_neg hn, show sizesE { m with asm := List.replicate n t, ens := [], prio := [] } = 0 by unfold sizesE; rw [if_neg]; simp; omega, show bothE { m with asm := List.replicate n t, ens := [], prio := [] } = 0 by unfold bothE; rw [if_neg]; simp]; simp
  · unfold modE
    simp only [firstE]
    rw [h1, h2, h3, h5, h6, hr n, h0]
    by_cases hn : 6 < n
    · rw [if_pos hn, show sizesE { m with asm := [], ens := [], prio := List.replicate n t } = 7 by unfold sizesE; rw [if_pos]; simp; omega]; simp
    · rw [if_neg hn, show sizesE { m with asm := [], ens := [], prio := List.replicate n t } = 0 by unfold sizesE; rw [if_neg]; simp; omega, show bothE { m with asm := [], ens := [], prio := List.replicate n t } = 0 by unfold bothE; rw [if_neg]; simp]; simp
  · unfold modE
    simp only [firstE]
    rw [h1, h2, h3, h5, h6, hr n, h0, h1t]
    by_cases hn : 4 < n
    · rw [if_pos hn, show sizesE { m with asm := [], ens := List.replicate n t, prio := [t] } = 7 by unfold sizesE; rw [if_pos]; simp; omega]; simp
    · rw [if_neg hn, show sizesE { m with asm := [], ens := List.replicate n t, prio := [t] } = 0 by unfold sizesE; rw [if_neg]; simp; omega]
      by_cases h00 : n = 0
      · subst h00
        rw [if_pos rfl, show bothE { m with asm := [], ens := List.replicate 0 t, prio := [t] } = 0 by unfold bothE; rw [if_neg]; simp]; simp
      · rw [if_neg h00, show bothE { m with asm := [], ens := List.replicate n t, prio := [t] } = 1 by unfold bothE; rw [if_pos]; simp; omega]; simp
/- the sides -/
theorem setGo_at {l : List Dom.V} {env : Bool} : ∀ {ss : List ST} {seen : List Int}, setGo l env seen ss = 0 → ∀ (i : Nat) (s : ST), ss[i]? = some s → 0 ≤ s.var ∧ s.var < l.length ∧ envAt l s.var = env ∧ s.var ∉ seen ∧ ∀ (j : Nat) (u : ST), j < i → ss[j]? = some u → u.var ≠ s.var
  | [], seen, _, i, s, hs => by simp at hs
  | a :: r, seen, h, i, s, hs => by
    rw [setGo] at h
    have hb : ¬ (a.var < 0 ∨ (l.length : Int) ≤ a.var ∨ envAt l a.var ≠ env ∨ a.var ∈ seen) := fun hb => by rw [if_pos hb] at h; cases h
    rw [if_neg hb] at h
    have hr : setGo l env (a.var :: seen) r = 0 := by
      split at h
      · split at h
        · exact h
        · cases h
      · split at h
        · exact h
        · rename_i hn; exact absurd h hn
    have hb2 : 0 ≤ a.var ∧ a.var < l.length ∧ envAt l a.var = env ∧ a.var ∉ seen := by
      refine ⟨?_, ?_, ?_, ?_⟩
      · exact Decidable.byContradiction fun h => hb (.inl (by omega))
      · exact Decidable.byContradiction fun h => hb (.inr (.inl (by omega)))
      · exact Decidable.byContradiction fun h => hb (.inr (.inr (.inl h)))
      · exact fun h => hb (.inr (.inr (.inr h)))
    cases i with
    | zero =>
      simp at hs; subst hs
      exact ⟨hb2.1, hb2.2.1, hb2.2.2.1, hb2.2.2.2, fun j u hj _ => by omega⟩
    | succ i =>
      obtain ⟨q1, q2, q3, q4, q5⟩ := setGo_at hr i s (by simpa using hs)
      simp at q4
      refine ⟨q1, q2, q3, q4.2, fun j u hj hu => ?_⟩
      cases j with
      | zero => simp at hu; subst hu; exact fun e => q4.1 e.symm
      | succ j => exact q5 j u (by omega) (by simpa using hu)
theorem setGo_snoc {l : List Dom.V} {env : Bool} (v : Int) : ∀ {ss : List ST} {seen : List Int}, setGo l env seen ss = 0 → setGo l env seen (ss ++ [⟨v, true, .mk 0 0 []⟩]) = if v < 0 ∨ (l.length : Int) ≤ v ∨ envAt l v ≠ env ∨ v ∈ seen ∨ v ∈ ss.map ST.var then 3 else 0
  | [], seen, _ => by
    rw [List.nil_append, setGo, setGo]
    have hz : zeroE (.mk 0 0 []) = true := by rfl
    simp [hz]
  | a :: r, seen, h => by
    rw [List.cons_append]
    rw [setGo] at h ⊢
    have hb : ¬ (a.var < 0 ∨ (l.length : Int) ≤ a.var ∨ envAt l a.var ≠ env ∨ a.var ∈ seen) := fun hb => by rw [if_pos hb] at h; cases h
    rw [if_neg hb] at h ⊢
    have e : (v ∈ a.var :: seen ∨ v ∈ r.map ST.var) ↔ (v ∈ seen ∨ v ∈ (a :: r).map ST.var) := by
      simp only [List.map_cons, List.mem_cons]
      constructor
      · rintro ((h | h) | h)
        · exact .inr (.inl h)
        · exact .inl h
        · exact .inr (.inr h)
      · rintro (h | h | h)
        · exact .inl (.inr h)
        · exact .inl (.inl h)
        · exact .inr h
    split at h
    · rename_i ha
      rw [if_pos ha]
      split at h
      · rename_i hz
        rw [if_pos hz, setGo_snoc v h]; simp only [e]
      · cases h
    · rename_i ha
      rw [if_neg ha]
      split at h
      · rename_i hz
        rw [if_pos hz, setGo_snoc v h]; simp only [e]
      · rename_i hn; exact absurd h hn
def gT (v : Int) : T := .mk 8 0 [.mk 2 0 [], .mk 9 0 [.mk 4 v [], .mk 4 v []]]
theorem gT_may {v : Int} (h0 : 0 ≤ v) (h6 : v < 6) : mayE (gT v) = 0 ∧ readsE (gT v) true = [v] ∧ readsE (gT v) false = [] := by
  have h : v = 0 ∨ v = 1 ∨ v = 2 ∨ v = 3 ∨ v = 4 ∨ v = 5 := by omega
  rcases h with rfl | rfl | rfl | rfl | rfl | rfl <;> decide +kernel
theorem gT_ty (l : List Dom.V) {v : Int} (h0 : 0 ≤ v) (hl : v < l.length) : tyT l (gT v) = (1, 0) := by
  have hn : ¬ (l.length : Int) ≤ v := by omega
  unfold gT
  simp [tyT, tyK, tyN, hn]
theorem gT_need {l : List Dom.V} {v : Int} (hm : Dom.mayL l = 0) (h0 : 0 ≤ v) (hl : v < l.length) (env : Bool) : needE l (gT v) 1 true (!env) false = if env = true ∨ envAt l v = false then 5 else 0 := by
  have h6 : l.length ≤ 6 := Dom.totL_len (Dom.mayL_zero hm).2
  obtain ⟨g1, g2, g3⟩ := gT_may h0 (by omega)
  have hs : sortE l (gT v) = (1, 0) := by unfold sortE; rw [if_pos hm, if_pos g1, gT_ty l h0 hl]
  unfold needE
  rw [hs, g2, g3]
  cases env <;> cases hv : envAt l v <;> simp [nextBad, nowBad, hv]
theorem sides_laws {l : List Dom.V} {c : CT} {env : Bool} (h : cmdE l c env = 0) {v : Int} (h0 : 0 ≤ v) (hl : v < l.length) (h6 : c.sets.length < 6) :
    cmdE l { c with sets := c.sets ++ [⟨v, true, .mk 0 0 []⟩] } env = (if envAt l v ≠ env ∨ v ∈ c.sets.map ST.var then 3 else 0) ∧ cmdE l { c with guard := gT v } env = (if env = true ∨ envAt l v = false then 5 else 0) := by
  obtain ⟨h1, h2, h3, h4⟩ := cmdE_parts h
  constructor
  · unfold cmdE
    simp only
    rw [if_pos h1, if_pos h2, if_neg (by simp; omega), setGo_snoc v h4]
    have : ¬ v < 0 := by omega
    have h' : ¬ (l.length : Int) ≤ v := by omega
    simp [this, h']
  · unfold cmdE
    simp only
    rw [if_pos h1, gT_need h1 h0 hl env, h4]
    by_cases hq : env = true ∨ envAt l v = false
    · rw [if_pos hq]; simp
    · rw [if_neg hq]; simp; omega
/- other names -/
def shp (l : List Dom.V) : List (Bool × Int) := l.map (fun v => (v.env, v.srt))
section
variable {l l2 : List Dom.V} (hs : shp l = shp l2)
include hs
theorem shp_len : l.length = l2.length := by have := congrArg List.length hs; simpa [shp] using this
theorem shp_at (i : Nat) : (l[i]?).map (fun v => (v.env, v.srt)) = (l2[i]?).map (fun v => (v.env, v.srt)) := by
  have := congrArg (fun x => x[i]?) hs; simpa [shp] using this
theorem shp_srt (i : Nat) : ((l[i]?).map Dom.V.srt).getD 0 = ((l2[i]?).map Dom.V.srt).getD 0 := by
  have h := shp_at hs i
  cases h1 : l[i]? <;> cases h2 : l2[i]? <;> rw [h1, h2] at h <;> simp at h ⊢
  exact h.2
theorem shp_env (i : Nat) : ((l[i]?).map Dom.V.env).getD false = ((l2[i]?).map Dom.V.env).getD false := by
  have h := shp_at hs i
  cases h1 : l[i]? <;> cases h2 : l2[i]? <;> rw [h1, h2] at h <;> simp at h ⊢
  exact h.1
theorem shp_tyN (op n : Int) (ss : List Int) : tyN l op n ss = tyN l2 op n ss := by
  unfold tyN
  rw [shp_len hs, shp_srt hs]
theorem shp_ty : ∀ t, tyT l t = tyT l2 t := by
  intro t
  exact T.rec (motive_1 := fun t => tyT l t = tyT l2 t) (motive_2 := fun ks => tyK l ks = tyK l2 ks) (fun o n ks ih => by rw [tyT, tyT, ih, shp_tyN hs]) (by rw [tyK, tyK]) (fun k r h1 h2 => by rw [tyK, tyK, h1, h2]) t
theorem shp_envAt (x : Int) : envAt l x = envAt l2 x := shp_env hs _
theorem shp_srtAt (x : Int) : srtAt l x = srtAt l2 x := shp_srt hs _
theorem shp_next (a b : Bool) : ∀ xs, nextBad l a b xs = nextBad l2 a b xs
  | [] => rfl
  | x :: r => by rw [nextBad, nextBad, shp_next a b r, shp_envAt hs]
theorem shp_now (a : Bool) : ∀ xs, nowBad l a xs = nowBad l2 a xs
  | [] => rfl
  | x :: r => by rw [nowBad, nowBad, shp_now a r, shp_envAt hs]
variable (h1 : Dom.mayL l = 0) (h2 : Dom.mayL l2 = 0)
include h1 h2
theorem shp_need (t : T) (want : Int) (now env sys : Bool) : needE l t want now env sys = needE l2 t want now env sys := by
  have e : sortE l t = sortE l2 t := by unfold sortE; rw [if_pos h1, if_pos h2, shp_ty hs]
  unfold needE
  rw [e, shp_next hs, shp_now hs]
theorem shp_set (env : Bool) : ∀ (ss : List ST) (seen : List Int), setGo l env seen ss = setGo l2 env seen ss
  | [], seen => by rw [setGo, setGo]
  | a :: r, seen => by rw [setGo, setGo, shp_len hs, shp_envAt hs, shp_srtAt hs, shp_need hs h1 h2, shp_set env r]
theorem shp_cmd (c : CT) (env : Bool) : cmdE l c env = cmdE l2 c env := by
  unfold cmdE; rw [if_pos h1, if_pos h2, shp_need hs h1 h2, shp_set hs h1 h2]
theorem shp_cmds (env : Bool) : ∀ cs, cmdsE l env cs = cmdsE l2 env cs
  | [] => by rw [cmdsE, cmdsE]
  | c :: r => by rw [cmdsE, cmdsE, shp_cmd hs h1 h2, shp_cmds env r]
theorem shp_goals : ∀ ts, goalsE l ts = goalsE l2 ts
  | [] => by rw [goalsE, goalsE]
  | t :: r => by rw [goalsE, goalsE, shp_need hs h1 h2, shp_goals r]
end
theorem shp_mod {m : MT} {l : List Dom.V} (hs : shp m.vars = shp l) (hl : Dom.mayL l = 0) (h : modE m = 0) : modE { m with vars := l } = 0 := by
  obtain ⟨h1, h2, h3, h4, h5, h6, h7, h8, h9, h10⟩ := (modE_iff m).1 h
  refine (modE_iff _).2 ⟨hl, ?_, ?_, h4, ?_, ?_, h7, ?_, ?_, ?_⟩ <;> simp only
  · rw [← shp_need hs h1 hl]; exact h2
  · rw [← shp_need hs h1 hl]; exact h3
  · rw [← shp_cmds hs h1 hl]; exact h5
  · rw [← shp_cmds hs h1 hl]; exact h6
  · rw [← shp_goals hs h1 hl]; exact h8
  · rw [← shp_goals hs h1 hl]; exact h9
  · rw [← shp_goals hs h1 hl]; exact h10
theorem mayGo_iff : ∀ (l : List Dom.V) (seen : List (List UInt8)), Dom.mayGo seen l = 0 ↔ (∀ v ∈ l, Dom.nameB v.nm = true ∧ v.may = 0 ∧ v.key ∉ seen) ∧ (l.map Dom.V.key).Nodup
  | [], seen => by simp [Dom.mayGo]
  | v :: r, seen => by
    rw [Dom.mayGo, List.map_cons, List.nodup_cons]
    have ih := mayGo_iff r (seen ++ [v.key])
    by_cases hb : Dom.nameB v.nm = false ∨ v.key ∈ seen
    · rw [if_pos hb]
      refine ⟨fun h => absurd h (by decide), fun h => ?_⟩
      have := h.1 v (by simp)
      rcases hb with hb | hb
      · rw [hb] at this; cases this.1
      · exact absurd hb this.2.2
    · rw [if_neg hb]
      have hn : Dom.nameB v.nm = true := by cases hq : Dom.nameB v.nm with
        | false => exact absurd (.inl hq) hb
        | true => rfl
      have hk : v.key ∉ seen := fun h => hb (.inr h)
      by_cases hm : v.may ≠ 0
      · rw [if_pos hm]
        exact ⟨fun h => absurd h hm, fun h => absurd (h.1 v (by simp)).2.1 hm⟩
      · rw [if_neg hm, ih]
        have hm' : v.may = 0 := Decidable.byContradiction hm
        constructor
        · rintro ⟨h1, h2⟩
          refine ⟨fun u hu => ?_, ?_, h2⟩
          · rcases List.mem_cons.1 hu with rfl | hu
            · exact ⟨hn, hm', hk⟩
            · obtain ⟨q1, q2, q3⟩ := h1 u hu
              exact ⟨q1, q2, fun h => q3 (by simp [h])⟩
          · intro hmem
            obtain ⟨u, hu, e⟩ := List.mem_map.1 hmem
            exact (h1 u hu).2.2 (by simp [e])
        · rintro ⟨h1, h2, h3⟩
          refine ⟨fun u hu => ?_, h3⟩
          obtain ⟨q1, q2, q3⟩ := h1 u (by simp [hu])
          refine ⟨q1, q2, fun h => ?_⟩
          rcases List.mem_append.1 h with h | h
          · exact q3 h
          · simp at h
            exact h2 (List.mem_map.2 ⟨u, hu, h⟩)
theorem mayL_iff (l : List Dom.V) : Dom.mayL l = 0 ↔ Dom.mayGo [] l = 0 ∧ Dom.totL l ≠ 0 := by
  refine ⟨Dom.mayL_zero, fun h => ?_⟩
  unfold Dom.mayL
  rw [if_neg (by simp [h.1]), if_neg h.2]
theorem totGo_set : ∀ (l : List Dom.V) (k : Nat) (v u : Dom.V) (t : Int), l[k]? = some v → u.may = v.may → u.size = v.size → Dom.totGo t (l.set k u) = Dom.totGo t l
  | [], k, v, u, t, h, _, _ => by simp at h
  | a :: r, 0, v, u, t, h, e1, e2 => by
    simp at h; subst h
    rw [List.set_cons_zero, Dom.totGo, Dom.totGo, e1, e2]
  | a :: r, k + 1, v, u, t, h, e1, e2 => by
    rw [List.set_cons_succ, Dom.totGo, Dom.totGo, totGo_set r k v u _ (by simpa using h) e1 e2]
theorem nodup_set {α : Type} {y : α} : ∀ {xs : List α} {k : Nat}, xs.Nodup → y ∉ xs → (xs.set k y).Nodup
  | [], k, h, _ => by simp
  | a :: r, 0, h, hy => by
    rw [List.nodup_cons] at h
    rw [List.set_cons_zero, List.nodup_cons]
    exact ⟨fun hm => hy (by simp [hm]), h.2⟩
  | a :: r, k + 1, h, hy => by
    rw [List.nodup_cons] at h
    rw [List.set_cons_succ, List.nodup_cons]
    refine ⟨fun hm => ?_, nodup_set h.2 (fun hm => hy (by simp [hm]))⟩
    rcases List.mem_or_eq_of_mem_set hm with hm | hm
    · exact h.1 hm
    · exact hy (by simp [hm])
theorem mayL_set {l : List Dom.V} {k : Nat} {v u : Dom.V} (h : Dom.mayL l = 0) (hk : l[k]? = some v) (e1 : u.may = v.may) (e2 : u.size = v.size) (hn : Dom.nameB u.nm = true) (hu : ∀ x ∈ l, x.key ≠ u.key) : Dom.mayL (l.set k u) = 0 := by
  obtain ⟨h1, h2⟩ := (mayL_iff l).1 h
  obtain ⟨q1, q2⟩ := (mayGo_iff l []).1 h1
  refine (mayL_iff _).2 ⟨(mayGo_iff _ _).2 ⟨fun x hx => ?_, ?_⟩, ?_⟩
  · rcases List.mem_or_eq_of_mem_set hx with hx | rfl
    · exact q1 x hx
    · exact ⟨hn, e1.trans (q1 v (List.mem_of_getElem? hk)).2.1, by simp⟩
  · rw [List.map_set]
    exact nodup_set q2 (fun hm => by
      obtain ⟨x, hx, e⟩ := List.mem_map.1 hm
      exact hu x hx e)
  · unfold Dom.totL at h2 ⊢
    rw [List.length_set, totGo_set l k v u 1 hk e1 e2]; exact h2
theorem mayGo_twice (v : Dom.V) : ∀ (l : List Dom.V) (seen : List (List UInt8)), Dom.mayGo seen l = 0 → (v.key ∈ seen ∨ v.key ∈ l.map Dom.V.key) → Dom.mayGo seen (l ++ [v]) = 3
  | [], seen, _, h => by
    rw [List.nil_append, Dom.mayGo, if_pos]
    right; simpa using h
  | a :: r, seen, h0, h => by
    rw [Dom.mayGo] at h0
    rw [List.cons_append, Dom.mayGo]
    split at h0
    · cases h0
    · rename_i hb
      rw [if_neg hb]
      split at h0
      · rename_i hm; exact absurd h0 hm
      · rename_i hm
        rw [if_neg hm]
        refine mayGo_twice v r _ h0 ?_
        simp only [List.map_cons, List.mem_cons] at h
        rcases h with h | h | h
        · exact .inl (by simp [h])
        · exact .inl (by simp [h])
        · exact .inr h
theorem mayL_twice {l : List Dom.V} {k : Nat} {v : Dom.V} (h : Dom.mayL l = 0) (hk : l[k]? = some v) : Dom.mayL (l ++ [v]) = 3 := by
  have := mayGo_twice v l [] ((mayL_iff l).1 h).1 (.inr (List.mem_map.2 ⟨v, List.mem_of_getElem? hk, rfl⟩))
  unfold Dom.mayL
  rw [this]; simp
theorem varsS_set : ∀ (l : List Dom.V) (k : Nat) (v : Dom.V) (q : ByteArray), l[k]? = some v → varsS l (l.set k { v with nm := q }) = (v.nm.data == q.data)
  | [], k, v, q, h => by simp at h
  | a :: r, 0, v, q, h => by
    simp at h; subst h
    rw [List.set_cons_zero, varsS, varsS_refl]; simp
  | a :: r, k + 1, v, q, h => by
    rw [List.set_cons_succ, varsS, varsS_set r k v q (by simpa using h)]; simp
theorem shp_set_at : ∀ (l : List Dom.V) (k : Nat) (v : Dom.V) (q : ByteArray), l[k]? = some v → shp (l.set k { v with nm := q }) = shp l
  | [], k, v, q, h => by simp at h
  | a :: r, 0, v, q, h => by
    simp at h; subst h
    rw [List.set_cons_zero]; simp [shp]
  | a :: r, k + 1, v, q, h => by
    have := shp_set_at r k v q (by simpa using h)
    rw [List.set_cons_succ]
    unfold shp at this ⊢
    rw [List.map_cons, List.map_cons, this]
def q7 : ByteArray := ⟨#[113, 95, 55]⟩
theorem q7_name : Dom.nameB q7 = true := by decide +kernel
theorem set_self {l : List Dom.V} {k : Nat} {v : Dom.V} (h : l[k]? = some v) : l.set k v = l := by
  obtain ⟨hk, rfl⟩ := List.getElem?_eq_some_iff.1 h
  exact List.set_getElem_self hk
theorem names_laws {m : MT} {k : Nat} {v : Dom.V} {q : ByteArray} (h : modE m = 0) (hk : m.vars[k]? = some v) (hq : Dom.nameB q = true) (hn : v.nm = q ∨ ∀ x ∈ m.vars, x.nm.data ≠ q.data) :
    modE { m with vars := m.vars.set k { v with nm := q } } = 0 ∧ modS m { m with vars := m.vars.set k { v with nm := q } } = (v.nm.data == q.data) ∧ modE { m with vars := m.vars ++ [v] } = 3 := by
  obtain ⟨h1, h2, h3, h4, h5, h6, h7, h8, h9, h10⟩ := (modE_iff m).1 h
  refine ⟨?_, ?_, ?_⟩
  · refine shp_mod (shp_set_at m.vars k v q hk).symm ?_ h
    rcases hn with rfl | hn
    · rw [set_self hk]; exact h1
    · refine mayL_set h1 hk rfl rfl hq (fun x hx e => hn x hx ?_)
      unfold Dom.V.key at e
      exact Array.toList_inj.1 e
  · obtain ⟨f1, f2, f3, f4, f5, f6, f7⟩ := mod_fit h
    unfold modS
    simp only
    rw [varsS_set m.vars k v q hk, sameE_fit f1, sameE_fit f2, cmdsS_refl f3, cmdsS_refl f4, rowS_refl f5, rowS_refl f6, rowS_refl f7]; simp
  · have e := mayL_twice h1 hk
    unfold modE
    simp only [firstE]
    rw [e]; simp
theorem findGo_neg (nm : List UInt8) : ∀ (l : List Dom.V) (i : Nat), Dom.findGo nm i l < 0 → ∀ v ∈ l, (v.nm.toList == nm) = false
  | [], i, _, v, hv => by simp at hv
  | a :: r, i, h, v, hv => by
    rw [Dom.findGo] at h
    split at h
    · omega
    · rename_i hc
      rcases List.mem_cons.1 hv with rfl | hv
      · simpa using hc
      · exact findGo_neg nm r (i + 1) h v hv
end Go.Proofs.YtbppdalfcldodaaGreat
namespace Go.Proofs.YtbppdalfcldodaaGreat
open Go.RowKit Ex
set_option linter.unusedSimpArgs false
set_option linter.unusedVariables false

theorem mem_upTo {f : Int → Bool} : ∀ {n : Nat} {x : Int}, x ∈ upTo f n ↔ ∃ k : Nat, k < n ∧ x = (k : Int) ∧ f (k : Int) = true
  | 0, x => by simp [upTo]
  | n + 1, x => by
    rw [upTo, List.mem_append, mem_upTo]
    constructor
    · rintro (⟨k, h1, h2, h3⟩ | h)
      · exact ⟨k, by omega, h2, h3⟩
      · split at h
        · rename_i hf
          simp at h
          exact ⟨n, by omega, h, hf⟩
        · simp at h
    · rintro ⟨k, h1, h2, h3⟩
      by_cases e : k = n
      · subst e
        right
        rw [if_pos h3]; simp [h2]
      · exact .inl ⟨k, by omega, h2, h3⟩
theorem upTo_none {f : Int → Bool} : ∀ {n : Nat}, (∀ k : Nat, k < n → f (k : Int) = false) → upTo f n = []
  | 0, _ => rfl
  | n + 1, h => by
    rw [upTo, upTo_none (fun k hk => h k (by omega)), h n (by omega)]; simp
theorem upTo_congr {f g : Int → Bool} : ∀ {n : Nat}, (∀ k : Nat, k < n → f (k : Int) = g (k : Int)) → upTo f n = upTo g n
  | 0, _ => rfl
  | n + 1, h => by
    rw [upTo, upTo, upTo_congr (fun k hk => h k (by omega)), h n (by omega)]
theorem upTo_one {f : Int → Bool} {k0 : Nat} : ∀ {n : Nat}, k0 < n → (∀ k : Nat, k < n → (f (k : Int) = true ↔ k = k0)) → upTo f n = [(k0 : Int)]
  | 0, h, _ => absurd h (by omega)
  | n + 1, h, hf => by
    rw [upTo]
    by_cases e : k0 = n
    · subst e
      rw [upTo_none (fun k hk => by
        cases hh : f (k : Int) with
        | false => rfl
        | true => exact absurd ((hf k (by omega)).1 hh) (by omega)), if_pos ((hf k0 (by omega)).2 rfl)]
      rfl
    · rw [upTo_one (n := n) (k0 := k0) (by omega) (fun k hk => hf k (by omega)), if_neg (fun hh => e ((hf n (by omega)).1 hh).symm)]
      simp
theorem upTo_lt {f : Int → Bool} : ∀ {n : Nat}, (upTo f n).Pairwise (· < ·)
  | 0 => List.Pairwise.nil
  | n + 1 => by
    rw [upTo, List.pairwise_append]
    refine ⟨upTo_lt, by split <;> simp, fun a ha b hb => ?_⟩
    obtain ⟨k, h1, h2, _⟩ := mem_upTo.1 ha
    split at hb
    · simp at hb; omega
    · simp at hb

section
variable {l : List Dom.V}
theorem val_at {s : Int} {k : Nat} {v : Dom.V} (h : l[k]? = some v) : ∃ x, (Dom.valsL l s)[k]? = some x := by
  have hk := (List.getElem?_eq_some_iff.1 h).1
  exact ⟨_, List.getElem?_eq_getElem (by rw [Dom.valsL_length]; exact hk)⟩
/- two states agree on a side -/
def Agree (l : List Dom.V) (e : Bool) (s t : Int) : Prop := ∀ (k : Nat) (v : Dom.V), l[k]? = some v → v.env = e → (Dom.valsL l s).getD k 0 = (Dom.valsL l t).getD k 0
theorem pick_agree {e : Bool} {s t : Int} (h : Agree l e s t) : Dom.pickL e l (Dom.valsL l s) = Dom.pickL e l (Dom.valsL l t) := by
  refine List.ext_getElem? (fun k => ?_)
  by_cases hk : k < l.length
  · have hv := List.getElem?_eq_getElem hk
    obtain ⟨x, hx⟩ := val_at (s := s) hv
    obtain ⟨y, hy⟩ := val_at (s := t) hv
    rw [Dom.pickL_at e l _ k _ x hv hx, Dom.pickL_at e l _ k _ y hv hy]
    by_cases he : (l[k]).env = e
    · have := h k _ hv he
      simp [hx, hy] at this
      rw [if_pos he, if_pos he, this]
    · rw [if_neg he, if_neg he]
  · rw [List.getElem?_eq_none (by rw [Dom.pickL_length e l _ (Dom.valsL_length l s)]; omega), List.getElem?_eq_none (by rw [Dom.pickL_length e l _ (Dom.valsL_length l t)]; omega)]
theorem agree_pick {e : Bool} {s t : Int} (h : Dom.pickL e l (Dom.valsL l s) = Dom.pickL e l (Dom.valsL l t)) : Agree l e s t := fun k v hv he => by
  obtain ⟨x, hx⟩ := val_at (s := s) hv
  obtain ⟨y, hy⟩ := val_at (s := t) hv
  have h1 := Dom.pickL_at e l _ k v x hv hx
  have h2 := Dom.pickL_at e l _ k v y hv hy
  rw [h, h2, if_pos he, if_pos he] at h1
  simp [hx, hy]
  exact (Option.some.inj h1).symm
theorem part_eq {s : Int} (e : Bool) (hM : Dom.mayL l = 0) (h0 : 0 ≤ s) (h1 : s < Dom.totL l) : Dom.partL l s e = Dom.numL l (Dom.pickL e l (Dom.valsL l s)) := by
  unfold Dom.partL Dom.goodS
  rw [if_pos (by simp [hM, h0, h1])]
theorem vals_part {s : Int} (e : Bool) (hM : Dom.mayL l = 0) (h0 : 0 ≤ s) (h1 : s < Dom.totL l) : Dom.valsL l (Dom.partL l s e) = Dom.pickL e l (Dom.valsL l s) := by
  rw [part_eq e hM h0 h1]
  exact Dom.vals_num l _ (Dom.mayL_all hM) (Dom.has_pick e l _ (Dom.mayL_all hM) (Dom.has_vals l s (Dom.mayL_all hM))) (Dom.pickL_length e l _ (Dom.valsL_length l s))
theorem vals_inj {s t : Int} (hM : Dom.mayL l = 0) (h0 : 0 ≤ s) (h1 : s < Dom.totL l) (h2 : 0 ≤ t) (h3 : t < Dom.totL l) (h : Dom.valsL l s = Dom.valsL l t) : s = t := by
  have hp : Dom.totL l = Dom.prodV l := Dom.totL_prod (Dom.mayL_zero hM).2
  rw [← Dom.num_vals l s (Dom.mayL_all hM) h0 (by omega), ← Dom.num_vals l t (Dom.mayL_all hM) h2 (by omega), h]
theorem part_rng {s : Int} (e : Bool) (hM : Dom.mayL l = 0) (h0 : 0 ≤ s) (h1 : s < Dom.totL l) : 0 ≤ Dom.partL l s e ∧ Dom.partL l s e < Dom.totL l := by
  have hp : Dom.totL l = Dom.prodV l := Dom.totL_prod (Dom.mayL_zero hM).2
  rw [part_eq e hM h0 h1]
  have := Dom.num_range l _ (Dom.mayL_all hM) (Dom.has_pick e l _ (Dom.mayL_all hM) (Dom.has_vals l s (Dom.mayL_all hM))) (Dom.pickL_length e l _ (Dom.valsL_length l s))
  omega
theorem agree_part {s : Int} (e : Bool) (hM : Dom.mayL l = 0) (h0 : 0 ≤ s) (h1 : s < Dom.totL l) : Agree l e (Dom.partL l s e) s := fun k v hv he => by
  rw [vals_part e hM h0 h1]
  obtain ⟨x, hx⟩ := val_at (s := s) hv
  have := Dom.pickL_at e l _ k v x hv hx
  rw [if_pos he] at this
  simp [this, hx]
theorem part_of_agree {e : Bool} {s t : Int} (hM : Dom.mayL l = 0) (h0 : 0 ≤ s) (h1 : s < Dom.totL l) (h2 : 0 ≤ t) (h3 : t < Dom.totL l) (h : Agree l e s t) : Dom.partL l s e = Dom.partL l t e := by
  rw [part_eq e hM h0 h1, part_eq e hM h2 h3, pick_agree h]
theorem agree_of_part {e : Bool} {s t : Int} (hM : Dom.mayL l = 0) (h0 : 0 ≤ s) (h1 : s < Dom.totL l) (h2 : 0 ≤ t) (h3 : t < Dom.totL l) (h : Dom.partL l s e = Dom.partL l t e) : Agree l e s t := by
  apply agree_pick
  rw [← vals_part e hM h0 h1, ← vals_part e hM h2 h3, h]
theorem state_eq {s t : Int} (hM : Dom.mayL l = 0) (h0 : 0 ≤ s) (h1 : s < Dom.totL l) (h2 : 0 ≤ t) (h3 : t < Dom.totL l) (ha : Agree l true s t) (hb : Agree l false s t) : s = t := by
  refine vals_inj hM h0 h1 h2 h3 (List.ext_getElem? fun k => ?_)
  by_cases hk : k < l.length
  · have hv := List.getElem?_eq_getElem hk
    obtain ⟨x, hx⟩ := val_at (s := s) hv
    obtain ⟨y, hy⟩ := val_at (s := t) hv
    have : (Dom.valsL l s).getD k 0 = (Dom.valsL l t).getD k 0 := by
      cases he : (l[k]).env with
      | true => exact ha k _ hv he
      | false => exact hb k _ hv he
    simp [hx, hy] at this
    rw [hx, hy, this]
  · rw [List.getElem?_eq_none (by rw [Dom.valsL_length]; omega), List.getElem?_eq_none (by rw [Dom.valsL_length]; omega)]
theorem does_go {c : CT} {env : Bool} {st nx : Int} {ws zs : List Int} : ∀ (r : List Dom.V) (i : Nat), doesGo l c env st nx ws zs i r = true ↔ ∀ (k : Nat) (v : Dom.V), r[k]? = some v → doesAt l c env st nx ws zs (i + k) v = true
  | [], i => by simp [doesGo]
  | v :: r, i => by
    rw [doesGo, Bool.and_eq_true, does_go r (i + 1)]
    constructor
    · rintro ⟨h1, h2⟩ k u hu
      cases k with
      | zero => simp at hu; subst hu; exact h1
      | succ k =>
        have := h2 k u (by simpa using hu)
        rw [show i + (k + 1) = i + 1 + k by omega]; exact this
    · intro h
      refine ⟨h 0 v rfl, fun k u hu => ?_⟩
      have := h (k + 1) u (by simpa using hu)
      rw [show i + 1 + k = i + (k + 1) by omega]; exact this
theorem does_iff {c : CT} {env : Bool} {st nx to : Int} : doesB l c env st nx to = true ↔ trueE l c.guard st nx = true ∧ ∀ (k : Nat) (v : Dom.V), l[k]? = some v → v.env = env → atR (scanS l st nx (k : Int) c.sets ((Dom.valsL l st).getD k 0) false) ((Dom.valsL l to).getD k 0) = true := by
  unfold doesB
  rw [Bool.and_eq_true, does_go]
  constructor
  · rintro ⟨h1, h2⟩
    refine ⟨h1, fun k v hv he => ?_⟩
    have := h2 k v hv
    rw [Nat.zero_add] at this
    unfold doesAt at this
    rw [if_pos he] at this
    exact this
  · rintro ⟨h1, h2⟩
    refine ⟨h1, fun k v hv => ?_⟩
    rw [Nat.zero_add]
    unfold doesAt
    by_cases he : v.env = env
    · rw [if_pos he]; exact h2 k v hv he
    · rw [if_neg he]
/- a command that sets nothing keeps its side -/
theorem does_none {g : T} {env : Bool} {st nx to : Int} : doesB l ⟨g, []⟩ env st nx to = true ↔ trueE l g st nx = true ∧ Agree l env to st := by
  rw [does_iff]
  refine and_congr_right fun _ => ?_
  constructor
  · intro h k v hv he
    have := h k v hv he
    simpa [scanS, atR] using this
  · intro h k v hv he
    have := h k v hv he
    simpa [scanS, atR] using this
theorem pick_iff {p : Int} (hM : Dom.mayL l = 0) (h0 : 0 ≤ p) (h1 : p < Dom.totL l) : pickB l p = true ↔ Dom.partL l p true = p := by
  unfold pickB
  simp [h0]
end
/- ChoiceGuards: a command that sets nothing -/
theorem guards_env {m : MT} {g : T} {st : Int} (hm : modE { m with env := [⟨g, []⟩], sys := [⟨g, []⟩] } = 0) (h0 : 0 ≤ st) (h1 : st < Dom.totL m.vars) :
    envL { m with env := [⟨g, []⟩], sys := [⟨g, []⟩] } st = if trueE m.vars g st st = true then [Dom.partL m.vars st true] else [] := by
  have hM : Dom.mayL m.vars = 0 := ((modE_iff _).1 hm).1
  unfold envL
  rw [if_pos ⟨hm, h0, h1⟩]
  simp only [List.any_cons, List.any_nil, Bool.or_false]
  have htn : ∀ k : Nat, k < totN { m with env := [⟨g, []⟩], sys := [⟨g, []⟩] } → 0 ≤ (k : Int) ∧ (k : Int) < Dom.totL m.vars := fun k hk => by
    have := (Dom.totL_bd m.vars).1
    unfold totN at hk
    simp only at hk
    omega
  by_cases ht : trueE m.vars g st st = true
  · rw [if_pos ht]
    obtain ⟨p1, p2⟩ := part_rng true hM h0 h1
    obtain ⟨k0, hk0⟩ := Int.eq_ofNat_of_zero_le p1
    rw [hk0]
    refine upTo_one (by unfold totN; simp only; omega) (fun k hk => ?_)
    obtain ⟨q1, q2⟩ := htn k hk
    rw [Bool.and_eq_true, pick_iff hM q1 q2, does_none]
    constructor
    · rintro ⟨e1, _, e2⟩
      have := part_of_agree hM q1 q2 h0 h1 e2
      rw [e1, hk0] at this
      omega
    · intro e
      have e' : (k : Int) = Dom.partL m.vars st true := by rw [hk0, e]
      rw [e']
      exact ⟨Dom.part_idem true hM h0 h1, ht, agree_part true hM h0 h1⟩
  · rw [if_neg ht]
    refine upTo_none (fun k hk => ?_)
    cases hb : pickB m.vars (k : Int) && doesB m.vars ⟨g, []⟩ true st st (k : Int) with
    | false => rfl
    | true =>
      rw [Bool.and_eq_true, does_none] at hb
      exact absurd hb.2.1 ht
end Go.Proofs.YtbppdalfcldodaaGreat
namespace Go.Proofs.YtbppdalfcldodaaGreat
open Go.RowKit Ex
set_option linter.unusedSimpArgs false
set_option linter.unusedVariables false

def mixL : List Dom.V → List Int → List Int → List Int
  | v :: l, x :: xs, y :: ys => (if v.env = true then x else y) :: mixL l xs ys
  | _, _, _ => []
theorem mixL_length : ∀ (l : List Dom.V) (xs ys : List Int), xs.length = l.length → ys.length = l.length → (mixL l xs ys).length = l.length
  | [], xs, ys, h1, h2 => by simp [mixL]
  | v :: l, [], ys, h1, h2 => by simp at h1
  | v :: l, x :: xs, [], h1, h2 => by simp at h2
  | v :: l, x :: xs, y :: ys, h1, h2 => by simp [mixL, mixL_length l xs ys (by simpa using h1) (by simpa using h2)]
theorem mixL_at : ∀ (l : List Dom.V) (xs ys : List Int) (k : Nat) (v : Dom.V) (x y : Int), l[k]? = some v → xs[k]? = some x → ys[k]? = some y → (mixL l xs ys)[k]? = some (if v.env = true then x else y)
  | [], xs, ys, k, v, x, y, h, _, _ => by simp at h
  | u :: l, [], ys, k, v, x, y, _, h, _ => by simp at h
  | u :: l, a :: xs, [], k, v, x, y, _, _, h => by simp at h
  | u :: l, a :: xs, b :: ys, 0, v, x, y, h1, h2, h3 => by simp at h1 h2 h3; subst h1; subst h2; subst h3; simp [mixL]
  | u :: l, a :: xs, b :: ys, k + 1, v, x, y, h1, h2, h3 => by
    simp only [mixL, List.getElem?_cons_succ] at *
    exact mixL_at l xs ys k v x y h1 h2 h3
section
variable {l : List Dom.V}
theorem has_mix {s t : Int} (hM : Dom.mayL l = 0) : Dom.hasAll l (mixL l (Dom.valsL l s) (Dom.valsL l t)) = true := by
  refine Dom.hasAll_of l _ (fun k v x hv hx => ?_)
  obtain ⟨a, ha⟩ := val_at (s := s) hv
  obtain ⟨b, hb⟩ := val_at (s := t) hv
  rw [mixL_at l _ _ k v a b hv ha hb] at hx
  have hx := Option.some.inj hx
  subst hx
  split
  · exact Dom.hasAll_at l _ k v a (Dom.has_vals l s (Dom.mayL_all hM)) hv ha
  · exact Dom.hasAll_at l _ k v b (Dom.has_vals l t (Dom.mayL_all hM)) hv hb
/- the environment's values of one state, the system's of another one -/
theorem mix_state (hM : Dom.mayL l = 0) (s t : Int) : ∃ u : Int, 0 ≤ u ∧ u < Dom.totL l ∧ Agree l true u s ∧ Agree l false u t := by
  have hp : Dom.totL l = Dom.prodV l := Dom.totL_prod (Dom.mayL_zero hM).2
  have hlen := mixL_length l _ _ (Dom.valsL_length l s) (Dom.valsL_length l t)
  have hr := Dom.num_range l _ (Dom.mayL_all hM) (has_mix hM (s := s) (t := t)) hlen
  have hv := Dom.vals_num l _ (Dom.mayL_all hM) (has_mix hM (s := s) (t := t)) hlen
  refine ⟨_, hr.1, by omega, fun k v hk he => ?_, fun k v hk he => ?_⟩
  · rw [hv]
    obtain ⟨a, ha⟩ := val_at (s := s) hk
    obtain ⟨b, hb⟩ := val_at (s := t) hk
    have := mixL_at l _ _ k v a b hk ha hb
    rw [if_pos he] at this
    simp [this, ha]
  · rw [hv]
    obtain ⟨a, ha⟩ := val_at (s := s) hk
    obtain ⟨b, hb⟩ := val_at (s := t) hk
    have := mixL_at l _ _ k v a b hk ha hb
    rw [if_neg (by rw [he]; simp)] at this
    simp [this, hb]
end
theorem tot_nat {m : MT} {k : Nat} (hk : k < totN m) : 0 ≤ (k : Int) ∧ (k : Int) < Dom.totL m.vars := by
  have := (Dom.totL_bd m.vars).1
  unfold totN at hk
  omega
theorem nat_tot {m : MT} {x : Int} (h0 : 0 ≤ x) (h1 : x < Dom.totL m.vars) : ∃ k : Nat, x = (k : Int) ∧ k < totN m := by
  obtain ⟨k, hk⟩ := Int.eq_ofNat_of_zero_le h0
  exact ⟨k, hk, by unfold totN; omega⟩
theorem guards_sys {m : MT} {g : T} {st p : Int} (hm : modE { m with env := [⟨g, []⟩], sys := [⟨g, []⟩] } = 0) (h0 : 0 ≤ st) (h1 : st < Dom.totL m.vars) (p0 : 0 ≤ p) (p1 : p < Dom.totL m.vars) (hp : Dom.partL m.vars p true = p) :
    (trueE m.vars g st p = false → sysL { m with env := [⟨g, []⟩], sys := [⟨g, []⟩] } st p = []) ∧
    (trueE m.vars g st p = true → ∃ u : Int, sysL { m with env := [⟨g, []⟩], sys := [⟨g, []⟩] } st p = [u] ∧ Dom.partL m.vars u true = p ∧ Dom.partL m.vars u false = Dom.partL m.vars st false) := by
  have hM : Dom.mayL m.vars = 0 := ((modE_iff _).1 hm).1
  have hpk : pickB m.vars p = true := (pick_iff hM p0 p1).2 hp
  unfold sysL
  rw [if_pos ⟨hm, h0, h1, hpk⟩]
  simp only [List.any_cons, List.any_nil, Bool.or_false]
  refine ⟨fun ht => upTo_none (fun k hk => ?_), fun ht => ?_⟩
  · cases hb : (Dom.partL m.vars (k : Int) true == p) && doesB m.vars ⟨g, []⟩ false st p (k : Int) with
    | false => rfl
    | true =>
      rw [Bool.and_eq_true, does_none] at hb
      rw [ht] at hb
      exact absurd hb.2.1 (by simp)
  · obtain ⟨u, u0, u1, ua, ub⟩ := mix_state hM p st
    obtain ⟨k0, rfl, hk0⟩ := nat_tot u0 u1
    have e1 : Dom.partL m.vars (k0 : Int) true = p := (part_of_agree hM u0 u1 p0 p1 ua).trans hp
    refine ⟨(k0 : Int), upTo_one hk0 (fun k hk => ?_), e1, part_of_agree hM u0 u1 h0 h1 ub⟩
    obtain ⟨q1, q2⟩ := tot_nat (m := { m with env := [⟨g, []⟩], sys := [⟨g, []⟩] }) hk
    rw [Bool.and_eq_true, does_none]
    constructor
    · rintro ⟨e2, _, e3⟩
      have e2 : Dom.partL m.vars (k : Int) true = p := by simpa using e2
      have : (k : Int) = (k0 : Int) := state_eq hM q1 q2 u0 u1 (agree_of_part hM q1 q2 u0 u1 (e2.trans e1.symm)) (fun j v hj he => (e3 j v hj he).trans (ub j v hj he).symm)
      omega
    · intro e
      subst e
      exact ⟨by simp [e1], ht, ub⟩

/- one command more -/
theorem more_envL {m : MT} {c : CT} {st : Int} (h1 : modE m = 0) (h2 : modE { m with env := m.env ++ [c] } = 0) (h3 : modE { m with env := [c] } = 0) (x : Int) :
    x ∈ envL { m with env := m.env ++ [c] } st ↔ x ∈ envL m st ∨ x ∈ envL { m with env := [c] } st := by
  unfold envL
  by_cases hs : 0 ≤ st ∧ st < Dom.totL m.vars
  · rw [if_pos ⟨h2, hs⟩, if_pos ⟨h1, hs⟩, if_pos ⟨h3, hs⟩, mem_upTo, mem_upTo, mem_upTo]
    constructor
    · rintro ⟨k, hk, e, hf⟩
      simp only [List.any_append, Bool.or_eq_true] at hf
      rcases hf with hf | hf
      · exact .inl ⟨k, hk, e, hf⟩
      · exact .inr ⟨k, hk, e, hf⟩
    · rintro (⟨k, hk, e, hf⟩ | ⟨k, hk, e, hf⟩)
      · exact ⟨k, hk, e, by simp only [List.any_append, Bool.or_eq_true]; exact .inl hf⟩
      · exact ⟨k, hk, e, by simp only [List.any_append, Bool.or_eq_true]; exact .inr hf⟩
  · rw [if_neg (fun h => hs h.2), if_neg (fun h => hs h.2), if_neg (fun h => hs h.2)]
    simp
theorem more_sysL {m : MT} {c : CT} {st p : Int} (h1 : modE m = 0) (h2 : modE { m with sys := m.sys ++ [c] } = 0) (h3 : modE { m with sys := [c] } = 0) (x : Int) :
    x ∈ sysL { m with sys := m.sys ++ [c] } st p ↔ x ∈ sysL m st p ∨ x ∈ sysL { m with sys := [c] } st p := by
  unfold sysL
  by_cases hs : 0 ≤ st ∧ st < Dom.totL m.vars ∧ pickB m.vars p = true
  · rw [if_pos ⟨h2, hs⟩, if_pos ⟨h1, hs⟩, if_pos ⟨h3, hs⟩, mem_upTo, mem_upTo, mem_upTo]
    constructor
    · rintro ⟨k, hk, e, hf⟩
      simp only [List.any_append, Bool.or_eq_true] at hf
      rcases hf with hf | hf
      · exact .inl ⟨k, hk, e, hf⟩
      · exact .inr ⟨k, hk, e, hf⟩
    · rintro (⟨k, hk, e, hf⟩ | ⟨k, hk, e, hf⟩)
      · exact ⟨k, hk, e, by simp only [List.any_append, Bool.or_eq_true]; exact .inl hf⟩
      · exact ⟨k, hk, e, by simp only [List.any_append, Bool.or_eq_true]; exact .inr hf⟩
  · rw [if_neg (fun h => hs h.2), if_neg (fun h => hs h.2), if_neg (fun h => hs h.2)]
    simp
theorem envL_mem {m : MT} {st x : Int} (h : x ∈ envL m st) : Dom.partL m.vars x true = x ∧ 0 ≤ x ∧ x < Dom.totL m.vars := by
  unfold envL at h
  split at h
  · rename_i hc
    obtain ⟨k, hk, rfl, hf⟩ := mem_upTo.1 h
    obtain ⟨q1, q2⟩ := tot_nat hk
    have hM : Dom.mayL m.vars = 0 := ((modE_iff _).1 hc.1).1
    obtain ⟨c, _, hf⟩ := List.any_eq_true.1 hf
    rw [Bool.and_eq_true] at hf
    exact ⟨(pick_iff hM q1 q2).1 hf.1, q1, q2⟩
  · simp at h
theorem sysL_mem {m : MT} {st p x : Int} (h : x ∈ sysL m st p) : Dom.partL m.vars x true = p ∧ 0 ≤ x ∧ x < Dom.totL m.vars := by
  unfold sysL at h
  split at h
  · obtain ⟨k, hk, rfl, hf⟩ := mem_upTo.1 h
    obtain ⟨q1, q2⟩ := tot_nat hk
    obtain ⟨c, _, hf⟩ := List.any_eq_true.1 hf
    rw [Bool.and_eq_true] at hf
    exact ⟨by simpa using hf.1, q1, q2⟩
  · simp at h
theorem envL_lt (m : MT) (st : Int) : (envL m st).Pairwise (· < ·) := by
  unfold envL
  split
  · exact upTo_lt
  · exact List.Pairwise.nil
theorem sysL_lt (m : MT) (st p : Int) : (sysL m st p).Pairwise (· < ·) := by
  unfold sysL
  split
  · exact upTo_lt
  · exact List.Pairwise.nil
/- the beginnings -/
theorem initE_mem {m : MT} {x : Int} (hm : modE m = 0) : x ∈ initEnvL m ↔ (0 ≤ x ∧ x < Dom.totL m.vars) ∧ Dom.partL m.vars x true = x ∧ trueE m.vars m.ie x x = true := by
  have hM : Dom.mayL m.vars = 0 := ((modE_iff _).1 hm).1
  unfold initEnvL
  rw [if_pos hm, mem_upTo]
  constructor
  · rintro ⟨k, hk, rfl, hf⟩
    obtain ⟨q1, q2⟩ := tot_nat hk
    rw [Bool.and_eq_true] at hf
    exact ⟨⟨q1, q2⟩, (pick_iff hM q1 q2).1 hf.1, hf.2⟩
  · rintro ⟨⟨q1, q2⟩, e1, e2⟩
    obtain ⟨k, rfl, hk⟩ := nat_tot q1 q2
    exact ⟨k, hk, rfl, by rw [Bool.and_eq_true]; exact ⟨(pick_iff hM q1 q2).2 e1, e2⟩⟩
theorem initS_mem {m : MT} {p x : Int} (hm : modE m = 0) (hp : pickB m.vars p = true) : x ∈ initSysL m p ↔ (0 ≤ x ∧ x < Dom.totL m.vars) ∧ Dom.partL m.vars x true = p ∧ trueE m.vars m.is x x = true := by
  unfold initSysL
  rw [if_pos ⟨hm, hp⟩, mem_upTo]
  constructor
  · rintro ⟨k, hk, rfl, hf⟩
    rw [Bool.and_eq_true] at hf
    exact ⟨tot_nat hk, by simpa using hf.1, hf.2⟩
  · rintro ⟨⟨q1, q2⟩, e1, e2⟩
    obtain ⟨k, rfl, hk⟩ := nat_tot q1 q2
    exact ⟨k, hk, rfl, by rw [Bool.and_eq_true]; exact ⟨by simp [e1], e2⟩⟩
/- a command that fails at one variable leads nowhere -/
theorem scan_app {l : List Dom.V} {st nx i : Int} : ∀ (ss tt : List ST) (w : Int) (a : Bool), (∀ s ∈ ss, s.var ≠ i) → scanS l st nx i (ss ++ tt) w a = scanS l st nx i tt w a
  | [], tt, w, a, _ => rfl
  | s :: ss, tt, w, a, h => by
    rw [List.cons_append, scanS, if_neg (h s (by simp)), scan_app ss tt w a (fun x hx => h x (by simp [hx]))]
theorem fails_env {m : MT} {g : T} {ss : List ST} {v : Dom.V} {e : T} {k : Nat} {st : Int} (hv : m.vars[k]? = some v) (hve : v.env = true) (hss : ∀ s ∈ ss, s.var ≠ (k : Int))
    (he : (valE m.vars e st st).2 ≠ 0 ∨ (valE m.vars e st st).1 < v.lo ∨ v.lo + v.size ≤ (valE m.vars e st st).1) : envL { m with env := [⟨g, ss ++ [⟨(k : Int), false, e⟩]⟩] } st = [] := by
  unfold envL
  split
  · rename_i hc
    have hM : Dom.mayL m.vars = 0 := ((modE_iff _).1 hc.1).1
    refine upTo_none (fun j hj => ?_)
    simp only [List.any_cons, List.any_nil, Bool.or_false]
    cases hb : pickB m.vars (j : Int) && doesB m.vars ⟨g, ss ++ [⟨(k : Int), false, e⟩]⟩ true st st (j : Int) with
    | false => rfl
    | true =>
      exfalso
      rw [Bool.and_eq_true, does_iff] at hb
      have h := hb.2.2 k v hv hve
      simp only at h
      rw [scan_app _ _ _ _ hss, scanS, if_pos rfl] at h
      simp only [Bool.false_eq_true, if_false] at h
      by_cases h0 : (valE m.vars e st st).2 = 0
      · rw [if_pos h0, scanS, atR] at h
        simp at h
        obtain ⟨x, hx⟩ := val_at (s := (j : Int)) hv
        have hb := Dom.has_bd (Dom.hasAll_at m.vars _ k v x (Dom.has_vals m.vars (j : Int) (Dom.mayL_all hM)) hv hx)
        simp [hx] at h
        unfold Dom.V.size at he
        rcases he with he | he | he
        · exact he h0
        · omega
        · omega
      · rw [if_neg h0, atR] at h
        cases h
  · rfl
end Go.Proofs.YtbppdalfcldodaaGreat
