/- What the program marks is what may be chosen. -/
import Derived.Test.YtbppdalfcldodaaGreatCDevG
namespace Go.Proofs.YtbppdalfcldodaaGreat
open Go.RowKit Ex
set_option linter.unusedSimpArgs false
set_option linter.unusedVariables false

theorem Apart.ne {l : List Dom.V} {ss : List ST} (h : Apart l ss) : ss.Pairwise (fun a b => a.var ≠ b.var) := by
  rw [List.pairwise_iff_getElem]
  intro i j hi hj hij
  exact (h j _ (List.getElem?_eq_getElem hj)).2.2 i _ hij (List.getElem?_eq_getElem hi)
theorem apart_go {l : List Dom.V} {env : Bool} {ss : List ST} (h : setGo l env [] ss = 0) : Apart l ss := fun i s hs => by
  obtain ⟨h1, h2, _, _, h5⟩ := setGo_at h i s hs
  exact ⟨h1, h2, h5⟩
theorem apart_cmd {l : List Dom.V} {env : Bool} {c : CT} (h : cmdE l c env = 0) : Apart l c.sets ∧ c.sets.length ≤ 6 := by
  obtain ⟨_, _, h3, h4⟩ := cmdE_parts h
  exact ⟨apart_go h4, h3⟩
theorem scan_at {l : List Dom.V} {st nx i z : Int} : ∀ (ss : List ST) (w : Int) (a : Bool), ss.Pairwise (fun a b => a.var ≠ b.var) →
    (atR (scanS l st nx i ss w a) z = true ↔ (∀ s ∈ ss, s.var = i → okS l st nx s z) ∧ ((∀ s ∈ ss, s.var ≠ i) → a = true ∨ z = w))
  | [], w, a, _ => by simp [scanS, atR]
  | s :: r, w, a, h => by
    rw [List.pairwise_cons] at h
    rw [scanS]
    by_cases e : s.var = i
    · have hr : ∀ u ∈ r, u.var ≠ i := fun u hu h1 => h.1 u hu (by rw [e, h1])
      rw [if_pos e]
      have hno : ¬ ∀ u ∈ s :: r, u.var ≠ i := fun h1 => h1 s (by simp) e
      have hok : (∀ u ∈ s :: r, u.var = i → okS l st nx u z) ↔ okS l st nx s z := by
        constructor
        · intro h1; exact h1 s (by simp) e
        · intro h1 u hu hui
          rcases List.mem_cons.1 hu with rfl | hu
          · exact h1
          · exact absurd hui (hr u hu)
      rw [hok]
      by_cases ha : s.any = true
      · rw [if_pos ha, scan_at r w true h.2]
        exact ⟨fun _ => ⟨.inl ha, fun h1 => absurd h1 hno⟩, fun _ => ⟨fun u hu hui => absurd hui (hr u hu), fun _ => .inl rfl⟩⟩
      · rw [if_neg ha]
        by_cases he : (valE l s.e st nx).2 = 0
        · rw [if_pos he, scan_at r _ false h.2]
          constructor
          · rintro ⟨_, h2⟩
            rcases h2 hr with h3 | h3
            · cases h3
            · exact ⟨.inr ⟨he, h3⟩, fun h1 => absurd h1 hno⟩
          · rintro ⟨h1 | ⟨_, h1⟩, _⟩
            · exact absurd h1 ha
            · exact ⟨fun u hu hui => absurd hui (hr u hu), fun _ => .inr h1⟩
        · rw [if_neg he]
          constructor
          · intro h1; cases h1
          · rintro ⟨h1 | ⟨h1, _⟩, _⟩
            · exact absurd h1 ha
            · exact absurd h1 he
    · rw [if_neg e, scan_at r w a h.2]
      constructor
      · rintro ⟨h1, h2⟩
        refine ⟨fun u hu hui => ?_, fun h3 => h2 (fun u hu => h3 u (by simp [hu]))⟩
        rcases List.mem_cons.1 hu with rfl | hu
        · exact absurd hui e
        · exact h1 u hu hui
      · rintro ⟨h1, h2⟩
        refine ⟨fun u hu hui => h1 u (by simp [hu]) hui, fun h3 => h2 (fun u hu => ?_)⟩
        rcases List.mem_cons.1 hu with rfl | hu
        · exact e
        · exact h3 u hu
section
variable {l : List Dom.V}
theorem envAt_at {k : Nat} {v : Dom.V} (h : l[k]? = some v) : envAt l (k : Int) = v.env := by simp [envAt, h]
/- where the sets of a command lead -/
theorem lead_does {c : CT} {env : Bool} {st nx b i : Int} (hM : Dom.mayL l = 0) (hc : cmdE l c env = 0) (b0 : 0 ≤ b) (b1 : b < Dom.totL l) (hb : ∀ (k : Nat) (v : Dom.V), l[k]? = some v → v.env = env → valAt l b k = valAt l st k) (i0 : 0 ≤ i) (i1 : i < Dom.totL l) :
    i ∈ leadsL (stepsL l st nx b) c.sets b ↔ (∀ (k : Nat) (v : Dom.V), l[k]? = some v → v.env = env → atR (scanS l st nx (k : Int) c.sets ((Dom.valsL l st).getD k 0) false) ((Dom.valsL l i).getD k 0) = true) ∧ ∀ (k : Nat) (v : Dom.V), l[k]? = some v → v.env ≠ env → valAt l i k = valAt l b k := by
  obtain ⟨_, _, _, hgo⟩ := cmdE_parts hc
  have hap := apart_go hgo
  have hse : ∀ s ∈ c.sets, 0 ≤ s.var ∧ s.var < l.length ∧ envAt l s.var = env := fun s hs => by
    obtain ⟨j, hj⟩ := List.mem_iff_getElem?.1 hs
    obtain ⟨h1, h2, h3, _⟩ := setGo_at hgo j s hj
    exact ⟨h1, h2, h3⟩
  rw [leads_all hM b0 b1 hap]
  constructor
  · rintro ⟨_, h2, h3⟩
    refine ⟨fun k v hv he => (scan_at _ _ _ hap.ne).2 ⟨fun s hs hsk => ?_, fun h => .inr ?_⟩, fun k v hv he => ?_⟩
    · have := h2 s hs
      rw [hsk, Int.toNat_natCast] at this
      exact this
    · have := h3 k (List.getElem?_eq_some_iff.1 hv).1 h
      rw [hb k v hv he] at this
      exact this
    · refine h3 k (List.getElem?_eq_some_iff.1 hv).1 (fun s hs hsk => he ?_)
      have := (hse s hs).2.2
      rw [hsk, envAt_at hv] at this
      exact this
  · rintro ⟨h1, h2⟩
    refine ⟨⟨i0, i1⟩, fun s hs => ?_, fun k hk h => ?_⟩
    · obtain ⟨s0, s1, s2⟩ := hse s hs
      obtain ⟨k, hk⟩ := Int.eq_ofNat_of_zero_le s0
      have hv := List.getElem?_eq_getElem (show k < l.length by omega)
      rw [hk, envAt_at hv] at s2
      rw [hk, Int.toNat_natCast]
      exact ((scan_at _ _ _ hap.ne).1 (h1 k _ hv s2)).1 s hs hk
    · have hv := List.getElem?_eq_getElem hk
      by_cases he : (l[k]).env = env
      · rcases ((scan_at _ _ _ hap.ne).1 (h1 k _ hv he)).2 h with h3 | h3
        · cases h3
        · rw [hb k _ hv he]; exact h3
      · exact h2 k _ hv he
theorem part_lo {s : Int} (e : Bool) (hM : Dom.mayL l = 0) (h0 : 0 ≤ s) (h1 : s < Dom.totL l) {k : Nat} {v : Dom.V} (hv : l[k]? = some v) (he : v.env ≠ e) : valAt l (Dom.partL l s e) k = v.lo := by
  unfold valAt
  rw [vals_part e hM h0 h1]
  obtain ⟨x, hx⟩ := val_at (s := s) hv
  have := Dom.pickL_at e l _ k v x hv hx
  rw [if_neg he] at this
  simp [this]
theorem vals_zero : ∀ (l : List Dom.V), (∀ v ∈ l, v.may = 0) → Dom.valsL l 0 = l.map (fun v => v.lo)
  | [], _ => rfl
  | v :: r, h => by
    have h1 : 1 ≤ v.size := Dom.size_pos (h v (by simp))
    rw [Dom.valsL, Int.zero_emod, Int.zero_ediv, vals_zero r (fun v hv => h v (by simp [hv]))]
    simp
theorem zero_lo (hM : Dom.mayL l = 0) {k : Nat} {v : Dom.V} (hv : l[k]? = some v) : valAt l 0 k = v.lo := by
  unfold valAt
  rw [vals_zero l (Dom.mayL_all hM)]
  simp [hv]
/- a pick: what is not the environment's is first -/
theorem pick_lo {i : Int} (hM : Dom.mayL l = 0) (i0 : 0 ≤ i) (i1 : i < Dom.totL l) : pickB l i = true ↔ ∀ (k : Nat) (v : Dom.V), l[k]? = some v → v.env ≠ true → valAt l i k = v.lo := by
  rw [pick_iff hM i0 i1]
  obtain ⟨p0, p1⟩ := part_rng true hM i0 i1
  constructor
  · intro h k v hv he
    rw [← h]; exact part_lo true hM i0 i1 hv he
  · intro h
    refine state_eq hM p0 p1 i0 i1 (agree_part true hM i0 i1) (fun k v hv he => ?_)
    have he' : v.env ≠ true := by rw [he]; simp
    exact (part_lo true hM i0 i1 hv he').trans (h k v hv he').symm
theorem part_iff {i p : Int} (hM : Dom.mayL l = 0) (i0 : 0 ≤ i) (i1 : i < Dom.totL l) (p0 : 0 ≤ p) (p1 : p < Dom.totL l) (hp : Dom.partL l p true = p) : Dom.partL l i true = p ↔ ∀ (k : Nat) (v : Dom.V), l[k]? = some v → v.env ≠ false → valAt l i k = valAt l p k := by
  constructor
  · intro h k v hv he
    have : Dom.partL l i true = Dom.partL l p true := by rw [h, hp]
    exact agree_of_part hM i0 i1 p0 p1 this k v hv (by simpa using he)
  · intro h
    rw [part_of_agree hM i0 i1 p0 p1 (fun k v hv he => h k v hv (by rw [he]; simp)), hp]
theorem num_mix : ∀ (l : List Dom.V) (xs ys : List Int), xs.length = l.length → ys.length = l.length → Dom.numL l (mixL l xs ys) = Dom.numL l (Dom.pickL false l ys) + Dom.numL l (Dom.pickL true l xs)
  | [], [], [], _, _ => by simp [mixL, Dom.pickL, Dom.numL]
  | [], _ :: _, _, h, _ => by simp at h
  | [], _, _ :: _, _, h => by simp at h
  | _ :: _, [], _, h, _ => by simp at h
  | _ :: _, _ :: _, [], _, h => by simp at h
  | v :: r, x :: xs, y :: ys, h1, h2 => by
    have := num_mix r xs ys (by simpa using h1) (by simpa using h2)
    simp only [mixL, Dom.pickL, Dom.numL, this, Int.mul_add]
    cases v.env <;> simp <;> omega
/- the state that keeps the system's part of st, with the pick p -/
theorem base_mix {st p : Int} (hM : Dom.mayL l = 0) (s0 : 0 ≤ st) (s1 : st < Dom.totL l) (p0 : 0 ≤ p) (p1 : p < Dom.totL l) (hp : Dom.partL l p true = p) :
    0 ≤ Dom.partL l st false + p ∧ Dom.partL l st false + p < Dom.totL l ∧ Agree l true (Dom.partL l st false + p) p ∧ Agree l false (Dom.partL l st false + p) st := by
  have hall := Dom.mayL_all hM
  have e : Dom.partL l st false + p = Dom.numL l (mixL l (Dom.valsL l p) (Dom.valsL l st)) := by
    rw [num_mix l _ _ (Dom.valsL_length l p) (Dom.valsL_length l st), ← part_eq false hM s0 s1, ← part_eq true hM p0 p1, hp]
  have hlen := mixL_length l _ _ (Dom.valsL_length l p) (Dom.valsL_length l st)
  have hr := Dom.num_range l _ hall (has_mix (s := p) (t := st) hM) hlen
  have hvals := Dom.vals_num l _ hall (has_mix (s := p) (t := st) hM) hlen
  rw [Dom.totL_prod (Dom.mayL_zero hM).2, e]
  refine ⟨hr.1, hr.2, fun k v hv he => ?_, fun k v hv he => ?_⟩
  · rw [hvals]
    obtain ⟨x, hx⟩ := val_at (s := p) hv
    obtain ⟨y, hy⟩ := val_at (s := st) hv
    have := mixL_at l _ _ k v x y hv hx hy
    rw [if_pos he] at this
    simp [this, hx]
  · rw [hvals]
    obtain ⟨x, hx⟩ := val_at (s := p) hv
    obtain ⟨y, hy⟩ := val_at (s := st) hv
    have := mixL_at l _ _ k v x y hv hx hy
    rw [if_neg (by rw [he]; simp)] at this
    simp [this, hy]
/- free variables -/
theorem free_led {env : Bool} {b i : Int} (hM : Dom.mayL l = 0) (b0 : 0 ≤ b) (b1 : b < Dom.totL l) (i0 : 0 ≤ i) (i1 : i < Dom.totL l) (now nx : Int) : i ∈ leadsL (stepsL l now nx b) (anyGo env 0 l) b ↔ ∀ (k : Nat) (v : Dom.V), l[k]? = some v → v.env ≠ env → valAt l i k = valAt l b k := by
  have hgo := any_setGo (L := l) env l 0 [] rfl (fun x hx => by simp at hx)
  rw [leads_all hM b0 b1 (apart_go hgo)]
  constructor
  · rintro ⟨_, _, h3⟩ k v hv he
    refine h3 k (List.getElem?_eq_some_iff.1 hv).1 (fun s hs hsk => he ?_)
    obtain ⟨j, hj⟩ := List.mem_iff_getElem?.1 hs
    have := (setGo_at hgo j s hj).2.2.1
    rw [hsk, envAt_at hv] at this
    exact this
  · intro h
    refine ⟨⟨i0, i1⟩, fun s hs => .inl (any_any env l 0 s hs), fun k hk hn => ?_⟩
    have hv := List.getElem?_eq_getElem hk
    refine h k _ hv (fun he => ?_)
    obtain ⟨s, hs, hsk⟩ := any_in env l 0 k _ hv he
    exact hn s hs (by rw [hsk, Nat.zero_add])
theorem free_apart (env : Bool) : Apart l (anyGo env 0 l) := apart_go (any_setGo (L := l) env l 0 [] rfl (fun x hx => by simp at hx))
end
theorem bool_iff {a b : Bool} (h : a = true ↔ b = true) : a = b := by
  cases a <;> cases b <;> simp_all
theorem any_congr {cs : List CT} {f g : CT → Bool} (h : ∀ c ∈ cs, f c = g c) : cs.any f = cs.any g := by
  induction cs with
  | nil => rfl
  | cons c r ih => rw [List.any_cons, List.any_cons, h c (by simp), ih (fun c hc => h c (by simp [hc]))]
theorem env_chosen {m : MT} {st : Int} (hm : modE m = 0) (s0 : 0 ≤ st) (s1 : st < Dom.totL m.vars) : upTo (fun i => chosen m.vars st st (Dom.partL m.vars st true) m.env i) (totN m) = envL m st := by
  have hM : Dom.mayL m.vars = 0 := ((modE_iff _).1 hm).1
  have hcs := (cmdsE_iff m.vars true m.env).1 ((modE_iff _).1 hm).2.2.2.2.1
  obtain ⟨b0, b1⟩ := part_rng true hM s0 s1
  unfold envL
  rw [if_pos ⟨hm, s0, s1⟩]
  refine upTo_congr (fun k hk => ?_)
  obtain ⟨i0, i1⟩ := tot_nat hk
  unfold chosen
  refine any_congr (fun c hc => bool_iff ?_)
  rw [Bool.and_eq_true, Bool.and_eq_true, decide_eq_true_iff, lead_does hM (hcs c hc) b0 b1 (fun k v hv he => agree_part true hM s0 s1 k v hv he) i0 i1, does_iff, pick_lo hM i0 i1]
  constructor
  · rintro ⟨h1, h2, h3⟩
    exact ⟨fun k v hv he => (h3 k v hv he).trans (part_lo true hM s0 s1 hv he), h1, h2⟩
  · rintro ⟨h1, h2, h3⟩
    exact ⟨h2, h3, fun k v hv he => (h1 k v hv he).trans (part_lo true hM s0 s1 hv he).symm⟩
theorem pick_good {l : List Dom.V} {p : Int} (hp : pickB l p = true) : 0 ≤ p ∧ p < Dom.totL l ∧ Dom.partL l p true = p := by
  rw [← pick_st, Bool.and_eq_true] at hp
  obtain ⟨h1, h2⟩ := stB_iff.1 hp.1
  exact ⟨h1, h2, by simpa using hp.2⟩
theorem sys_chosen {m : MT} {st p : Int} (hm : modE m = 0) (s0 : 0 ≤ st) (s1 : st < Dom.totL m.vars) (hp : pickB m.vars p = true) : upTo (fun i => chosen m.vars st p (Dom.partL m.vars st false + p) m.sys i) (totN m) = sysL m st p := by
  have hM : Dom.mayL m.vars = 0 := ((modE_iff _).1 hm).1
  have hcs := (cmdsE_iff m.vars false m.sys).1 ((modE_iff _).1 hm).2.2.2.2.2.1
  obtain ⟨p0, p1, p2⟩ := pick_good hp
  obtain ⟨b0, b1, b2, b3⟩ := base_mix hM s0 s1 p0 p1 p2
  unfold sysL
  rw [if_pos ⟨hm, s0, s1, hp⟩]
  refine upTo_congr (fun k hk => ?_)
  obtain ⟨i0, i1⟩ := tot_nat hk
  unfold chosen
  refine any_congr (fun c hc => bool_iff ?_)
  rw [Bool.and_eq_true, Bool.and_eq_true, decide_eq_true_iff, lead_does hM (hcs c hc) b0 b1 (fun k v hv he => b3 k v hv he) i0 i1, does_iff, beq_iff_eq, part_iff hM i0 i1 p0 p1 p2]
  constructor
  · rintro ⟨h1, h2, h3⟩
    exact ⟨fun k v hv he => (h3 k v hv he).trans (b2 k v hv (by simpa using he)), h1, h2⟩
  · rintro ⟨h1, h2, h3⟩
    exact ⟨h2, h3, fun k v hv he => (h1 k v hv he).trans (b2 k v hv (by simpa using he)).symm⟩
theorem initE_free {m : MT} (hm : modE m = 0) (now nx : Int) : upTo (fun i => decide (i ∈ leadsL (stepsL m.vars now nx 0) (anyGo true 0 m.vars) 0) && trueE m.vars m.ie i i) (totN m) = initEnvL m := by
  have hM : Dom.mayL m.vars = 0 := ((modE_iff _).1 hm).1
  have ht : 0 < Dom.totL m.vars := by have := (Dom.totL_bd m.vars).1; have := (Dom.mayL_zero hM).2; omega
  unfold initEnvL
  rw [if_pos hm]
  refine upTo_congr (fun k hk => ?_)
  obtain ⟨i0, i1⟩ := tot_nat hk
  congr 1
  refine bool_iff ?_
  rw [decide_eq_true_iff, free_led hM (Int.le_refl 0) ht i0 i1, pick_lo hM i0 i1]
  constructor
  · intro h k v hv he
    exact (h k v hv he).trans (zero_lo hM hv)
  · intro h k v hv he
    exact (h k v hv he).trans (zero_lo hM hv).symm
theorem initS_free {m : MT} {p : Int} (hm : modE m = 0) (hp : pickB m.vars p = true) (now nx : Int) : upTo (fun i => decide (i ∈ leadsL (stepsL m.vars now nx p) (anyGo false 0 m.vars) p) && trueE m.vars m.is i i) (totN m) = initSysL m p := by
  have hM : Dom.mayL m.vars = 0 := ((modE_iff _).1 hm).1
  obtain ⟨p0, p1, p2⟩ := pick_good hp
  unfold initSysL
  rw [if_pos ⟨hm, hp⟩]
  refine upTo_congr (fun k hk => ?_)
  obtain ⟨i0, i1⟩ := tot_nat hk
  congr 1
  refine bool_iff ?_
  rw [decide_eq_true_iff, free_led hM p0 p1 i0 i1, beq_iff_eq, part_iff hM i0 i1 p0 p1 p2]
end Go.Proofs.YtbppdalfcldodaaGreat
