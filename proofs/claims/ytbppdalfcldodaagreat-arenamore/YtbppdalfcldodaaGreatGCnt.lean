/- How many picks there are, and how many states of one pick: their product is the number of states. What ChoiceAny says, as data: commands that set all to any. -/
import Derived.Test.YtbppdalfcldodaaGreatGLaw
namespace Go.Proofs.YtbppdalfcldodaaGreat
open Go.RowKit Ex
set_option linter.unusedSimpArgs false
set_option linter.unusedVariables false

def cnt (f : Int → Bool) (n : Nat) : Nat := (upTo f n).length
theorem cnt_succ (f : Int → Bool) (n : Nat) : cnt f (n + 1) = cnt f n + (if f (n : Int) = true then 1 else 0) := by
  unfold cnt
  rw [upTo, List.length_append]
  split <;> simp
theorem cnt_shift (f : Int → Bool) (a : Nat) : ∀ b, cnt f (a + b) = cnt f a + cnt (fun x => f ((a : Int) + x)) b
  | 0 => by simp [cnt, upTo]
  | b + 1 => by
    rw [← Nat.add_assoc, cnt_succ, cnt_shift f a b, cnt_succ, Nat.add_assoc]
    congr 2
theorem cnt_congr {f g : Int → Bool} {n : Nat} (h : ∀ k : Nat, k < n → f (k : Int) = g (k : Int)) : cnt f n = cnt g n := by unfold cnt; rw [upTo_congr h]
theorem cnt_true (n : Nat) : cnt (fun _ => true) n = n := by
  induction n with
  | zero => rfl
  | succ n ih => rw [cnt_succ, ih]; simp
theorem cnt_false (n : Nat) : cnt (fun _ => false) n = 0 := by
  induction n with
  | zero => rfl
  | succ n ih => rw [cnt_succ, ih]; simp
theorem cnt_and (c : Bool) (f : Int → Bool) (n : Nat) : cnt (fun x => f x && c) n = if c = true then cnt f n else 0 := by
  cases c
  · simp [cnt_false]
  · simp
theorem cnt_prod (P R : Int → Bool) (z : Nat) (hz : 0 < z) : ∀ r, cnt (fun s => P (s % (z : Int)) && R (s / (z : Int))) (z * r) = cnt P z * cnt R r
  | 0 => by simp [cnt, upTo]
  | r + 1 => by
    rw [Nat.mul_succ, cnt_shift, cnt_prod P R z hz r, cnt_succ, Nat.mul_add]
    congr 1
    have h : cnt (fun x => P ((((z * r : Nat) : Int) + x) % (z : Int)) && R ((((z * r : Nat) : Int) + x) / (z : Int))) z = cnt (fun x => P x && R (r : Int)) z := cnt_congr (fun k hk => by
      have e1 : (((z * r : Nat) : Int) + (k : Int)) % (z : Int) = (k : Int) := by
        rw [Int.natCast_mul, Int.mul_add_emod_self_left]
        exact Int.emod_eq_of_lt (by omega) (by omega)
      have e2 : (((z * r : Nat) : Int) + (k : Int)) / (z : Int) = (r : Int) := by
        rw [Int.natCast_mul, Int.add_comm, Int.add_mul_ediv_left _ _ (by omega), Int.ediv_eq_zero_of_lt (by omega) (by omega)]
        simp
      rw [e1, e2])
    rw [h, cnt_and]
    split <;> simp
def pickQ : List Dom.V → Int → Bool
  | [], _ => true
  | v :: l, s => (v.env || (s % v.size == 0)) && pickQ l (s / v.size)
def partQ : List Dom.V → Int → Int → Bool
  | [], _, _ => true
  | v :: l, p, s => (!v.env || (s % v.size == p % v.size)) && partQ l (p / v.size) (s / v.size)
theorem cnt_one (p : Int) (z : Nat) (h0 : 0 ≤ p) (h1 : p < (z : Int)) : cnt (fun r => r == p) z = 1 := by
  obtain ⟨k, rfl⟩ := Int.eq_ofNat_of_zero_le h0
  unfold cnt
  rw [upTo_one (k0 := k) (by omega) (fun j hj => by simp only [beq_iff_eq]; omega)]
  rfl
theorem count_prod : ∀ (l : List Dom.V) (p : Int), (∀ v ∈ l, v.may = 0) → cnt (pickQ l) (Dom.prodV l).toNat * cnt (partQ l p) (Dom.prodV l).toNat = (Dom.prodV l).toNat
  | [], p, _ => by simp [Dom.prodV, cnt, upTo, pickQ, partQ]
  | v :: l, p, h => by
    have hs : 1 ≤ v.size := Dom.size_pos (h v (by simp))
    have hp := Dom.prodV_pos l (fun u hu => h u (by simp [hu]))
    obtain ⟨z, hz⟩ := Int.eq_ofNat_of_zero_le (show 0 ≤ v.size by omega)
    obtain ⟨r, hr⟩ := Int.eq_ofNat_of_zero_le (show 0 ≤ Dom.prodV l by omega)
    have ih := count_prod l (p / v.size) (fun u hu => h u (by simp [hu]))
    rw [hr] at ih
    simp only [Int.toNat_natCast] at ih
    have hpr : (Dom.prodV (v :: l)).toNat = z * r := by
      rw [Dom.prodV, hz, hr, ← Int.natCast_mul, Int.toNat_natCast]
    have hpm : 0 ≤ p % (z : Int) ∧ p % (z : Int) < (z : Int) := ⟨Int.emod_nonneg _ (by omega), Int.emod_lt_of_pos _ (by omega)⟩
    rw [hpr]
    have c1 : cnt (pickQ (v :: l)) (z * r) = cnt (fun x => v.env || (x == 0)) z * cnt (pickQ l) r := by
      have : pickQ (v :: l) = fun s => (fun x => v.env || (x == 0)) (s % (z : Int)) && pickQ l (s / (z : Int)) := by funext s; rw [pickQ, hz]
      rw [this]; exact cnt_prod (fun x => v.env || (x == 0)) (pickQ l) z (by omega) r
    have c2 : cnt (partQ (v :: l) p) (z * r) = cnt (fun x => !v.env || (x == p % (z : Int))) z * cnt (partQ l (p / v.size)) r := by
      have : partQ (v :: l) p = fun s => (fun x => !v.env || (x == p % (z : Int))) (s % (z : Int)) && partQ l (p / v.size) (s / (z : Int)) := by funext s; rw [partQ, hz]
      rw [this]; exact cnt_prod (fun x => !v.env || (x == p % (z : Int))) (partQ l (p / v.size)) z (by omega) r
    rw [c1, c2]
    cases v.env
    · have d1 : cnt (fun x => false || (x == (0 : Int))) z = 1 := by
        have := cnt_one 0 z (by omega) (by omega)
        simpa using this
      have d2 : cnt (fun x => !false || (x == p % (z : Int))) z = z := by
        have := cnt_true z
        simpa using this
      rw [d1, d2, Nat.one_mul, Nat.mul_left_comm, ih]
    · have d1 : cnt (fun x => true || (x == (0 : Int))) z = z := by
        have := cnt_true z
        simpa using this
      have d2 : cnt (fun x => !true || (x == p % (z : Int))) z = 1 := by
        have := cnt_one (p % (z : Int)) z hpm.1 hpm.2
        simpa using this
      rw [d1, d2, Nat.one_mul, Nat.mul_assoc, ih]
theorem pickQ_iff : ∀ (l : List Dom.V) (s : Int), pickQ l s = true ↔ Dom.pickL true l (Dom.valsL l s) = Dom.valsL l s
  | [], s => by simp [pickQ, Dom.pickL, Dom.valsL]
  | v :: l, s => by
    rw [pickQ, Dom.valsL, Dom.pickL, Bool.and_eq_true, pickQ_iff l (s / v.size)]
    cases v.env
    · simp
      intro _
      constructor
      · intro h; omega
      · intro h; omega
    · simp
theorem partQ_iff : ∀ (l : List Dom.V) (p s : Int), partQ l p s = true ↔ Dom.pickL true l (Dom.valsL l s) = Dom.pickL true l (Dom.valsL l p)
  | [], p, s => by simp [partQ, Dom.pickL, Dom.valsL]
  | v :: l, p, s => by
    rw [partQ, Dom.valsL, Dom.valsL, Dom.pickL, Dom.pickL, Bool.and_eq_true, partQ_iff l (p / v.size) (s / v.size)]
    cases v.env
    · simp
    · simp
/- picks times the states of one pick: the total -/
theorem picks_prod {l : List Dom.V} {p : Int} (hM : Dom.mayL l = 0) (h0 : 0 ≤ p) (h1 : p < Dom.totL l) (hp : Dom.partL l p true = p) :
    cnt (fun s => pickB l s) (Dom.totL l).toNat * cnt (fun s => Dom.partL l s true == p) (Dom.totL l).toNat = (Dom.totL l).toNat := by
  have ht : Dom.totL l = Dom.prodV l := Dom.totL_prod (Dom.mayL_zero hM).2
  have hc := count_prod l p (Dom.mayL_all hM)
  rw [← ht] at hc
  have hb := (Dom.totL_bd l).1
  rw [cnt_congr (g := pickQ l) (fun k hk => ?_), cnt_congr (g := partQ l p) (f := fun s => Dom.partL l s true == p) (fun k hk => ?_)]
  · exact hc
  · have q1 : 0 ≤ (k : Int) ∧ (k : Int) < Dom.totL l := by omega
    rw [Bool.eq_iff_iff, partQ_iff]
    simp only [beq_iff_eq]
    constructor
    · intro h
      exact pick_agree (agree_of_part hM q1.1 q1.2 h0 h1 (h.trans hp.symm))
    · intro h
      exact (part_of_agree hM q1.1 q1.2 h0 h1 (agree_pick h)).trans hp
  · have q1 : 0 ≤ (k : Int) ∧ (k : Int) < Dom.totL l := by omega
    rw [Bool.eq_iff_iff, pickQ_iff, pick_iff hM q1.1 q1.2]
    constructor
    · intro h
      have := vals_part true hM q1.1 q1.2
      rw [h] at this
      exact this.symm
    · intro h
      rw [part_eq true hM q1.1 q1.2, h]
      exact Dom.num_vals l _ (Dom.mayL_all hM) q1.1 (by omega)
end Go.Proofs.YtbppdalfcldodaaGreat
namespace Go.Proofs.YtbppdalfcldodaaGreat
open Go.RowKit Ex
set_option linter.unusedSimpArgs false
set_option linter.unusedVariables false

theorem true_yes {l : List Dom.V} {a b : Int} (hM : Dom.mayL l = 0) (h0 : 0 ≤ a) (h1 : a < Dom.totL l) (h2 : 0 ≤ b) (h3 : b < Dom.totL l) : trueE l (.mk 2 1 []) a b = true := by
  have hm : mayE (.mk 2 1 []) = 0 := by decide +kernel
  have hs : sortE l (.mk 2 1 []) = (1, 0) := by
    unfold sortE
    rw [if_pos hM, if_pos hm]
    rfl
  have hv : valE l (.mk 2 1 []) a b = (1, 0) := by
    unfold valE
    rw [hs, if_pos rfl, if_pos (by unfold isSt; simp; omega)]
    rfl
  unfold trueE
  rw [hv, hs]; rfl
theorem scan_any {l : List Dom.V} {st nx i : Int} : ∀ (ss : List ST) (w : Int) (a : Bool), (∀ s ∈ ss, s.any = true) → scanS l st nx i ss w a = some (w, a || ss.any (fun s => s.var == i))
  | [], w, a, _ => by simp [scanS]
  | s :: ss, w, a, h => by
    rw [scanS, List.any_cons]
    by_cases e : s.var = i
    · rw [if_pos e, if_pos (h s (by simp)), scan_any ss w true (fun x hx => h x (by simp [hx]))]
      simp [e]
    · rw [if_neg e, scan_any ss w a (fun x hx => h x (by simp [hx]))]
      have e2 : (s.var == i) = false := by simp [e]
      rw [e2, Bool.false_or]
theorem does_any_all {l : List Dom.V} {ss : List ST} {env : Bool} {st nx to : Int} (hM : Dom.mayL l = 0) (h0 : 0 ≤ st) (h1 : st < Dom.totL l) (h2 : 0 ≤ nx) (h3 : nx < Dom.totL l) (hall : ∀ s ∈ ss, s.any = true) (hin : ∀ (k : Nat) (v : Dom.V), l[k]? = some v → v.env = env → ∃ s ∈ ss, s.var = (k : Int)) :
    doesB l ⟨.mk 2 1 [], ss⟩ env st nx to = true := by
  rw [does_iff]
  refine ⟨true_yes hM h0 h1 h2 h3, fun k v hv he => ?_⟩
  rw [scan_any ss _ _ hall, atR]
  obtain ⟨s, hs, e⟩ := hin k v hv he
  have : ss.any (fun s => s.var == (k : Int)) = true := List.any_eq_true.2 ⟨s, hs, by simp [e]⟩
  simp only [this]; simp
theorem any_envL {m : MT} {ss : List ST} {st : Int} (hm : modE m = 0) (he : m.env = [⟨.mk 2 1 [], ss⟩]) (h0 : 0 ≤ st) (h1 : st < Dom.totL m.vars) (hall : ∀ s ∈ ss, s.any = true) (hin : ∀ (k : Nat) (v : Dom.V), m.vars[k]? = some v → v.env = true → ∃ s ∈ ss, s.var = (k : Int)) :
    envL m st = upTo (fun p => pickB m.vars p) (totN m) := by
  have hM : Dom.mayL m.vars = 0 := ((modE_iff _).1 hm).1
  unfold envL
  rw [if_pos ⟨hm, h0, h1⟩, he]
  refine upTo_congr (fun k hk => ?_)
  simp only [List.any_cons, List.any_nil, Bool.or_false]
  rw [does_any_all hM h0 h1 h0 h1 hall hin, Bool.and_true]
theorem any_sysL {m : MT} {ss : List ST} {st p : Int} (hm : modE m = 0) (he : m.sys = [⟨.mk 2 1 [], ss⟩]) (h0 : 0 ≤ st) (h1 : st < Dom.totL m.vars) (p0 : 0 ≤ p) (p1 : p < Dom.totL m.vars) (hp : Dom.partL m.vars p true = p) (hall : ∀ s ∈ ss, s.any = true) (hin : ∀ (k : Nat) (v : Dom.V), m.vars[k]? = some v → v.env = false → ∃ s ∈ ss, s.var = (k : Int)) :
    sysL m st p = upTo (fun s => Dom.partL m.vars s true == p) (totN m) := by
  have hM : Dom.mayL m.vars = 0 := ((modE_iff _).1 hm).1
  unfold sysL
  rw [if_pos ⟨hm, h0, h1, (pick_iff hM p0 p1).2 hp⟩, he]
  refine upTo_congr (fun k hk => ?_)
  simp only [List.any_cons, List.any_nil, Bool.or_false]
  rw [does_any_all hM h0 h1 p0 p1 hall hin, Bool.and_true]
theorem yes_initE {m : MT} (hm : modE m = 0) (hi : m.ie = .mk 2 1 []) : initEnvL m = upTo (fun p => pickB m.vars p) (totN m) := by
  have hM : Dom.mayL m.vars = 0 := ((modE_iff _).1 hm).1
  unfold initEnvL
  rw [if_pos hm, hi]
  refine upTo_congr (fun k hk => ?_)
  obtain ⟨q1, q2⟩ := tot_nat hk
  rw [true_yes hM q1 q2 q1 q2, Bool.and_true]
theorem yes_initS {m : MT} {p : Int} (hm : modE m = 0) (hi : m.is = .mk 2 1 []) (p0 : 0 ≤ p) (p1 : p < Dom.totL m.vars) (hp : Dom.partL m.vars p true = p) : initSysL m p = upTo (fun s => Dom.partL m.vars s true == p) (totN m) := by
  have hM : Dom.mayL m.vars = 0 := ((modE_iff _).1 hm).1
  unfold initSysL
  rw [if_pos ⟨hm, (pick_iff hM p0 p1).2 hp⟩, hi]
  refine upTo_congr (fun k hk => ?_)
  obtain ⟨q1, q2⟩ := tot_nat hk
  rw [true_yes hM q1 q2 q1 q2, Bool.and_true]
def anyGo (e : Bool) : Nat → List Dom.V → List ST
  | _, [] => []
  | k, v :: r => if v.env = e then ⟨(k : Int), true, .mk 0 0 []⟩ :: anyGo e (k + 1) r else anyGo e (k + 1) r
theorem any_len (e : Bool) : ∀ (r : List Dom.V) (k : Nat), (anyGo e k r).length ≤ r.length
  | [], _ => by simp [anyGo]
  | v :: r, k => by
    rw [anyGo]
    have := any_len e r (k + 1)
    split <;> simp <;> omega
theorem any_any (e : Bool) : ∀ (r : List Dom.V) (k : Nat), ∀ s ∈ anyGo e k r, s.any = true
  | [], _, s, h => by simp [anyGo] at h
  | v :: r, k, s, h => by
    rw [anyGo] at h
    split at h
    · rcases List.mem_cons.1 h with rfl | h
      · rfl
      · exact any_any e r (k + 1) s h
    · exact any_any e r (k + 1) s h
theorem any_in (e : Bool) : ∀ (r : List Dom.V) (k j : Nat) (v : Dom.V), r[j]? = some v → v.env = e → ∃ s ∈ anyGo e k r, s.var = ((k + j : Nat) : Int)
  | [], k, j, v, h, _ => by simp at h
  | u :: r, k, 0, v, h, he => by
    simp at h; subst h
    rw [anyGo, if_pos he]
    exact ⟨_, List.mem_cons_self .., rfl⟩
  | u :: r, k, j + 1, v, h, he => by
    obtain ⟨s, hs, e2⟩ := any_in e r (k + 1) j v (by simpa using h) he
    rw [show k + 1 + j = k + (j + 1) by omega] at e2
    rw [anyGo]
    split
    · exact ⟨s, List.mem_cons_of_mem _ hs, e2⟩
    · exact ⟨s, hs, e2⟩
theorem any_setGo {L : List Dom.V} (e : Bool) : ∀ (r : List Dom.V) (k : Nat) (seen : List Int), L.drop k = r → (∀ x ∈ seen, x < (k : Int)) → setGo L e seen (anyGo e k r) = 0
  | [], k, seen, _, _ => by simp [anyGo, setGo]
  | v :: r, k, seen, h, hs => by
    have hk : L[k]? = some v := by
      have := congrArg (fun l => l[0]?) h
      simpa using this
    have hr : L.drop (k + 1) = r := by
      have := congrArg List.tail h
      simpa using this
    have hl := (List.getElem?_eq_some_iff.1 hk).1
    rw [anyGo]
    by_cases he : v.env = e
    · rw [if_pos he, setGo, if_neg, if_pos rfl, if_pos (by rfl)]
      · exact any_setGo e r (k + 1) _ hr (fun x hx => by
          rcases List.mem_cons.1 hx with rfl | hx
          · simp only; omega
          · have := hs x hx; omega)
      · rintro (h1 | h1 | h1 | h1)
        · simp only at h1; omega
        · simp only at h1; omega
        · apply h1
          unfold envAt
          simp [hk, he]
        · have := hs _ h1
          simp only at this; omega
    · rw [if_neg he]
      exact any_setGo e r (k + 1) seen hr (fun x hx => by have := hs x hx; omega)
theorem need_yes {l : List Dom.V} (hM : Dom.mayL l = 0) (now env sys : Bool) : needE l (.mk 2 1 []) 1 now env sys = 0 := by
  have hm : mayE (.mk 2 1 []) = 0 := by decide +kernel
  have hs : sortE l (.mk 2 1 []) = (1, 0) := by
    unfold sortE
    rw [if_pos hM, if_pos hm]
    rfl
  have r1 : readsE (.mk 2 1 []) true = [] := by decide +kernel
  have r2 : readsE (.mk 2 1 []) false = [] := by decide +kernel
  unfold needE
  rw [hs, r1, r2]
  simp [nextBad, nowBad]
theorem any_cmd {l : List Dom.V} (hM : Dom.mayL l = 0) (e : Bool) : cmdE l ⟨.mk 2 1 [], anyGo e 0 l⟩ e = 0 := by
  have h6 := Dom.totL_len (Dom.mayL_zero hM).2
  have hl := any_len e l 0
  unfold cmdE
  simp only
  rw [if_pos hM, if_pos (need_yes hM _ _ _), if_neg (by omega)]
  exact any_setGo e l 0 [] rfl (fun x hx => by simp at hx)
/- ChoiceAny's modules may be -/
theorem any_mod {m : MT} (hm : modE m = 0) : modE { m with env := [⟨.mk 2 1 [], anyGo true 0 m.vars⟩], sys := [⟨.mk 2 1 [], anyGo false 0 m.vars⟩] } = 0 ∧
    modE { m with env := [⟨.mk 2 1 [], anyGo true 0 m.vars⟩], sys := [⟨.mk 2 1 [], anyGo false 0 m.vars⟩], ie := .mk 2 1 [], is := .mk 2 1 [] } = 0 := by
  obtain ⟨h1, h2, h3, h4, h5, h6, h7, h8, h9, h10⟩ := (modE_iff m).1 hm
  have hs := sizesE_zero h4
  have c1 : cmdsE m.vars true [⟨.mk 2 1 [], anyGo true 0 m.vars⟩] = 0 := by rw [cmdsE, if_pos (any_cmd h1 true), cmdsE]
  have c2 : cmdsE m.vars false [⟨.mk 2 1 [], anyGo false 0 m.vars⟩] = 0 := by rw [cmdsE, if_pos (any_cmd h1 false), cmdsE]
  refine ⟨(modE_iff _).2 ⟨h1, h2, h3, ?_, c1, c2, h7, h8, h9, h10⟩, (modE_iff _).2 ⟨h1, need_yes h1 _ _ _, need_yes h1 _ _ _, ?_, c1, c2, h7, h8, h9, h10⟩⟩
  · unfold sizesE; rw [if_neg]; simp; omega
  · unfold sizesE; rw [if_neg]; simp; omega
end Go.Proofs.YtbppdalfcldodaaGreat
