/- What a row of sets leads to, as data. The walks of the reference's InitEnv and InitSys. The program's choice: isState, isPick, listed. The program's choice: begin. -/
import Derived.Test.YtbppdalfcldodaaGreatGLaw
import Derived.Deep.AppendLies
import Derived.OwnWalk
import Derived.Test.YtbppdalfcldodaaGreatGFold
namespace Go.Proofs.YtbppdalfcldodaaGreat
open Go.RowKit Ex
set_option linter.unusedSimpArgs false
set_option linter.unusedVariables false

def allL (l : List Dom.V) (b i : Int) (v : Dom.V) : List Int := (List.range v.size.toNat).map (fun j : Nat => Dom.withV l b i v.lo - b + (j : Int) * Dom.totL (l.take i.toNat))
def stepsL (l : List Dom.V) (now nx b : Int) (s : ST) : List Int :=
  if s.any = true then (match l[s.var.toNat]? with
    | some v => allL l b s.var v
    | none => [])
  else if (valE l s.e now nx).2 = 0 then (if Dom.withOk l b s.var (valE l s.e now nx).1 = true then [Dom.withV l b s.var (valE l s.e now nx).1 - b] else []) else []
def crossL (ds xs : List Int) : List Int := ds.flatMap (fun d => xs.map (fun x => x + d))
def leadsL (f : ST → List Int) (ss : List ST) (b : Int) : List Int := ss.foldl (fun xs s => crossL (f s) xs) [b]
def okS (l : List Dom.V) (now nx : Int) (s : ST) (x : Int) : Prop := s.any = true ∨ ((valE l s.e now nx).2 = 0 ∧ x = (valE l s.e now nx).1)
def valAt (l : List Dom.V) (t : Int) (k : Nat) : Int := (Dom.valsL l t).getD k 0

theorem num_set : ∀ (l : List Dom.V) (xs : List Int) (k : Nat) (v : Dom.V) (x y : Int), l[k]? = some v → xs[k]? = some x → Dom.numL l (xs.set k y) = Dom.numL l xs + (y - x) * Dom.prodV (l.take k)
  | [], _, _, _, _, _, h, _ => by simp at h
  | _ :: _, [], _, _, _, _, _, h => by simp at h
  | v0 :: r, x0 :: xs, 0, v, x, y, _, h => by
    simp at h; subst h
    simp [Dom.numL, Dom.prodV]; omega
  | v0 :: r, x0 :: xs, k + 1, v, x, y, h1, h2 => by
    have := num_set r xs k v x y (by simpa using h1) (by simpa using h2)
    simp only [List.set_cons_succ, Dom.numL, List.take_succ_cons, Dom.prodV, this]
    rw [Int.mul_add, Int.mul_left_comm v0.size (y - x)]
    omega
theorem totGo_take : ∀ (l : List Dom.V) (k : Nat) (t : Int), t ≠ 0 → Dom.totGo t l ≠ 0 → Dom.totGo t (l.take k) ≠ 0
  | [], k, t, ht, h => by simpa using h
  | v :: r, 0, t, ht, h => by simpa [Dom.totGo] using ht
  | v :: r, k + 1, t, ht, h => by
    rw [List.take_succ_cons, Dom.totGo]
    rw [Dom.totGo] at h
    split
    · rename_i h1; rw [if_pos h1] at h; exact absurd rfl h
    · rename_i h1
      rw [if_neg h1] at h
      split
      · rename_i h2; rw [if_pos h2] at h; exact absurd rfl h
      · rename_i h2
        rw [if_neg h2] at h
        have h3 : v.may = 0 := Decidable.byContradiction h1
        have h4 : 1 ≤ v.size := Dom.size_pos h3
        exact totGo_take r k _ (Int.mul_ne_zero ht (by omega)) h
theorem tot_take {l : List Dom.V} (h : Dom.totL l ≠ 0) (k : Nat) : Dom.totL (l.take k) = Dom.prodV (l.take k) := by
  have hl := Dom.totL_len h
  refine Dom.totL_prod ?_
  unfold Dom.totL at h ⊢
  rw [if_neg (by omega)] at h
  rw [if_neg (by rw [List.length_take]; omega)]
  exact totGo_take l k 1 (by omega) h
section
variable {l : List Dom.V}
theorem put_state {t x : Int} {k : Nat} {v : Dom.V} (hM : Dom.mayL l = 0) (h0 : 0 ≤ t) (h1 : t < Dom.totL l) (hv : l[k]? = some v) (hx : Dom.hasB v.srt v.lo v.hi x = true) :
    0 ≤ t + (x - valAt l t k) * Dom.prodV (l.take k) ∧ t + (x - valAt l t k) * Dom.prodV (l.take k) < Dom.totL l ∧ Dom.valsL l (t + (x - valAt l t k) * Dom.prodV (l.take k)) = (Dom.valsL l t).set k x ∧ Dom.numL l ((Dom.valsL l t).set k x) = t + (x - valAt l t k) * Dom.prodV (l.take k) := by
  have hall := Dom.mayL_all hM
  have hp : Dom.totL l = Dom.prodV l := Dom.totL_prod (Dom.mayL_zero hM).2
  obtain ⟨y, hy⟩ := val_at (s := t) hv
  have e1 := num_set l (Dom.valsL l t) k v y x hv hy
  rw [Dom.num_vals l t hall h0 (by omega)] at e1
  have e2 : valAt l t k = y := by unfold valAt; simp [hy]
  rw [e2, ← e1]
  have hh := Dom.has_set l _ k v x (Dom.has_vals l t hall) hv hx
  have hl : ((Dom.valsL l t).set k x).length = l.length := by simp [Dom.valsL_length]
  obtain ⟨r1, r2⟩ := Dom.num_range l _ hall hh hl
  exact ⟨r1, by omega, Dom.vals_num l _ hall hh hl, rfl⟩
theorem valAt_has {t : Int} {k : Nat} {v : Dom.V} (hM : Dom.mayL l = 0) (hv : l[k]? = some v) : Dom.hasB v.srt v.lo v.hi (valAt l t k) = true := by
  obtain ⟨y, hy⟩ := val_at (s := t) hv
  have e2 : valAt l t k = y := by unfold valAt; simp [hy]
  rw [e2]
  exact Dom.hasAll_at l _ k v y (Dom.has_vals l t (Dom.mayL_all hM)) hv hy
theorem set_valAt {t u x : Int} {k : Nat} {v : Dom.V} (hv : l[k]? = some v) (h : Dom.valsL l u = (Dom.valsL l t).set k x) (j : Nat) : valAt l u j = if j = k then x else valAt l t j := by
  have hk := (List.getElem?_eq_some_iff.1 hv).1
  unfold valAt
  rw [h]
  by_cases e : j = k
  · subst e
    rw [if_pos rfl]
    simp [List.getD_eq_getElem?_getD, Dom.valsL_length, hk]
  · rw [if_neg e]
    simp [List.getD_eq_getElem?_getD, List.getElem?_set, Ne.symm e]
theorem with_ok {b : Int} {k : Nat} {v : Dom.V} (hM : Dom.mayL l = 0) (h0 : 0 ≤ b) (h1 : b < Dom.totL l) (hv : l[k]? = some v) (x : Int) : Dom.withOk l b (k : Int) x = Dom.hasB v.srt v.lo v.hi x := by
  have hg : Dom.goodS l b = true := by simp [Dom.goodS, hM, h0, h1]
  unfold Dom.withOk Dom.hasAt
  rw [hg, if_neg (by omega), Int.toNat_natCast, hv]; rfl
theorem with_step {b x : Int} {k : Nat} {v : Dom.V} (hM : Dom.mayL l = 0) (h0 : 0 ≤ b) (h1 : b < Dom.totL l) (hv : l[k]? = some v) (hx : Dom.hasB v.srt v.lo v.hi x = true) :
    Dom.withV l b (k : Int) x - b = (x - valAt l b k) * Dom.prodV (l.take k) := by
  obtain ⟨_, _, _, e⟩ := put_state hM h0 h1 hv hx
  unfold Dom.withV
  rw [if_pos (by rw [with_ok hM h0 h1 hv, hx]), Int.toNat_natCast, e]; omega
theorem size_nat {v : Dom.V} (h : v.may = 0) : ∃ z : Nat, v.size = (z : Int) ∧ 1 ≤ z ∧ z ≤ 2001 := by
  have h4 : 1 ≤ v.size := Dom.size_pos h
  have h5 := (Dom.size_bd v.srt v.lo v.hi).2
  have h6 : Dom.sizeOfV v.srt v.lo v.hi = v.size := rfl
  exact ⟨v.size.toNat, by omega, by omega, by omega⟩
theorem has_iff {v : Dom.V} {x : Int} : Dom.hasB v.srt v.lo v.hi x = true ↔ v.lo ≤ x ∧ x < v.lo + v.size := by
  simp [Dom.hasB, Dom.V.size]
theorem steps_mem {now nx b : Int} {s : ST} {k : Nat} {v : Dom.V} (hM : Dom.mayL l = 0) (h0 : 0 ≤ b) (h1 : b < Dom.totL l) (hk : s.var = (k : Int)) (hv : l[k]? = some v) (d : Int) :
    d ∈ stepsL l now nx b s ↔ ∃ x, Dom.hasB v.srt v.lo v.hi x = true ∧ okS l now nx s x ∧ d = (x - valAt l b k) * Dom.prodV (l.take k) := by
  have hm : v.may = 0 := Dom.mayL_all hM v (List.mem_of_getElem? hv)
  unfold stepsL okS
  rw [hk, Int.toNat_natCast, hv]
  by_cases ha : s.any = true
  · rw [if_pos ha]
    obtain ⟨z, hz, hz1, hz2⟩ := size_nat hm
    simp only [allL, Int.toNat_natCast, List.mem_map, List.mem_range, ha, true_or, true_and]
    rw [with_step hM h0 h1 hv (has_iff.2 ⟨by omega, by omega⟩), tot_take (Dom.mayL_zero hM).2, hz, Int.toNat_natCast]
    constructor
    · rintro ⟨j, hj, rfl⟩
      refine ⟨v.lo + (j : Int), has_iff.2 ⟨by omega, by omega⟩, ?_⟩
      rw [← Int.add_mul]; congr 1; omega
    · rintro ⟨x, hx, rfl⟩
      obtain ⟨x1, x2⟩ := has_iff.1 hx
      refine ⟨(x - v.lo).toNat, by omega, ?_⟩
      rw [← Int.add_mul]; congr 1; omega
  · rw [if_neg ha]
    by_cases he : (valE l s.e now nx).2 = 0
    · rw [if_pos he, with_ok hM h0 h1 hv]
      by_cases hx : Dom.hasB v.srt v.lo v.hi (valE l s.e now nx).1 = true
      · rw [if_pos hx, List.mem_singleton, with_step hM h0 h1 hv hx]
        constructor
        · rintro rfl
          exact ⟨_, hx, .inr ⟨he, rfl⟩, rfl⟩
        · rintro ⟨x, _, h | ⟨_, rfl⟩, rfl⟩
          · exact absurd h ha
          · rfl
      · rw [if_neg hx]
        constructor
        · intro h; simp at h
        · rintro ⟨x, h, h' | ⟨_, rfl⟩, _⟩
          · exact absurd h' ha
          · exact absurd h hx
    · rw [if_neg he]
      constructor
      · intro h; simp at h
      · rintro ⟨x, h, h' | ⟨h', _⟩, _⟩
        · exact absurd h' ha
        · exact absurd h' he
/- where the sets of a row lead -/
def Led (l : List Dom.V) (now nx b : Int) (ss : List ST) (t : Int) : Prop :=
  (0 ≤ t ∧ t < Dom.totL l) ∧ (∀ s ∈ ss, okS l now nx s (valAt l t s.var.toNat)) ∧ ∀ k : Nat, k < l.length → (∀ s ∈ ss, s.var ≠ (k : Int)) → valAt l t k = valAt l b k
def Apart (l : List Dom.V) (ss : List ST) : Prop := ∀ (i : Nat) (s : ST), ss[i]? = some s → 0 ≤ s.var ∧ s.var < l.length ∧ ∀ (j : Nat) (u : ST), j < i → ss[j]? = some u → u.var ≠ s.var
theorem led_nil {now nx b : Int} (hM : Dom.mayL l = 0) (h0 : 0 ≤ b) (h1 : b < Dom.totL l) (t : Int) : t ∈ ([b] : List Int) ↔ Led l now nx b [] t := by
  rw [List.mem_singleton]
  constructor
  · rintro rfl
    exact ⟨⟨h0, h1⟩, fun s hs => by simp at hs, fun k _ _ => rfl⟩
  · rintro ⟨⟨h2, h3⟩, _, h⟩
    refine vals_inj hM h2 h3 h0 h1 (List.ext_getElem? fun k => ?_)
    by_cases hk : k < l.length
    · have hv := List.getElem?_eq_getElem hk
      obtain ⟨x, hx⟩ := val_at (s := t) hv
      obtain ⟨y, hy⟩ := val_at (s := b) hv
      have := h k hk (fun s hs => by simp at hs)
      simp [valAt, hx, hy] at this
      rw [hx, hy, this]
    · rw [List.getElem?_eq_none (by rw [Dom.valsL_length]; omega), List.getElem?_eq_none (by rw [Dom.valsL_length]; omega)]
theorem led_snoc {now nx b : Int} {ss : List ST} {s : ST} {xs : List Int} (hM : Dom.mayL l = 0) (h0 : 0 ≤ b) (h1 : b < Dom.totL l) (hs0 : 0 ≤ s.var) (hs1 : s.var < l.length) (hd : ∀ u ∈ ss, 0 ≤ u.var ∧ u.var ≠ s.var)
    (hx : ∀ t, t ∈ xs ↔ Led l now nx b ss t) (t : Int) : t ∈ crossL (stepsL l now nx b s) xs ↔ Led l now nx b (ss ++ [s]) t := by
  obtain ⟨k, hk⟩ := Int.eq_ofNat_of_zero_le hs0
  have hkl : k < l.length := by omega
  have hv := List.getElem?_eq_getElem hkl
  have hn : ∀ u ∈ ss, u.var ≠ (k : Int) := fun u hu e => (hd u hu).2 (by rw [e, hk])
  have hn2 : ∀ u ∈ ss, u.var.toNat ≠ k := fun u hu e => hn u hu (by have := (hd u hu).1; omega)
  simp only [crossL, List.mem_flatMap, List.mem_map]
  constructor
  · rintro ⟨d, hdm, y, hy, rfl⟩
    obtain ⟨x, q1, q2, rfl⟩ := (steps_mem hM h0 h1 hk hv d).1 hdm
    obtain ⟨⟨y0, y1⟩, y2, y3⟩ := (hx y).1 hy
    have e := y3 k hkl hn
    rw [← e]
    obtain ⟨p0, p1, p2, _⟩ := put_state hM y0 y1 hv q1
    have p3 := set_valAt hv p2
    refine ⟨⟨p0, p1⟩, fun u hu => ?_, fun j hj hu => ?_⟩
    · rw [List.mem_append, List.mem_singleton] at hu
      rcases hu with hu | rfl
      · rw [p3, if_neg (hn2 u hu)]; exact y2 u hu
      · rw [hk, Int.toNat_natCast, p3, if_pos rfl]; exact q2
    · have h5 : j ≠ k := fun e => hu s (by simp) (by rw [hk, e])
      rw [p3, if_neg h5]
      exact y3 j hj (fun u h => hu u (by simp [h]))
  · rintro ⟨⟨t0, t1⟩, t2, t3⟩
    obtain ⟨p0, p1, p2, _⟩ := put_state (x := valAt l b k) hM t0 t1 hv (valAt_has hM hv)
    have p3 := set_valAt hv p2
    have q2 := t2 s (by simp)
    rw [hk, Int.toNat_natCast] at q2
    refine ⟨_, (steps_mem hM h0 h1 hk hv _).2 ⟨valAt l t k, valAt_has hM hv, q2, rfl⟩, _, (hx _).2 ⟨⟨p0, p1⟩, fun u hu => ?_, fun j hj hu => ?_⟩, ?_⟩
    · rw [p3, if_neg (hn2 u hu)]; exact t2 u (by simp [hu])
    · by_cases e : j = k
      · rw [p3, if_pos e, e]
      · rw [p3, if_neg e]
        refine t3 j hj (fun u h => ?_)
        rw [List.mem_append, List.mem_singleton] at h
        rcases h with h | rfl
        · exact hu u h
        · rw [hk]; omega
    · rw [Int.add_assoc, ← Int.add_mul]
      have : valAt l b k - valAt l t k + (valAt l t k - valAt l b k) = 0 := by omega
      rw [this, Int.zero_mul, Int.add_zero]
theorem leads_snoc (f : ST → List Int) (ss : List ST) (s : ST) (b : Int) : leadsL f (ss ++ [s]) b = crossL (f s) (leadsL f ss b) := by simp [leadsL]
theorem leads_mem {now nx b : Int} (hM : Dom.mayL l = 0) (h0 : 0 ≤ b) (h1 : b < Dom.totL l) {ss : List ST} (ha : Apart l ss) : ∀ (n : Nat), n ≤ ss.length → ∀ t, t ∈ leadsL (stepsL l now nx b) (ss.take n) b ↔ Led l now nx b (ss.take n) t
  | 0, _, t => by
    rw [List.take_zero]; exact led_nil hM h0 h1 t
  | n + 1, hn, t => by
    have hs := List.getElem?_eq_getElem (show n < ss.length by omega)
    have e : ss.take (n + 1) = ss.take n ++ [ss[n]] := by rw [List.take_add_one, hs]; rfl
    rw [e, leads_snoc]
    obtain ⟨a0, a1, a2⟩ := ha n _ hs
    refine led_snoc hM h0 h1 a0 a1 (fun u hu => ?_) (leads_mem hM h0 h1 ha n (by omega)) t
    obtain ⟨j, hj⟩ := List.mem_iff_getElem?.1 hu
    have hjn : j < n := by
      have := (List.getElem?_eq_some_iff.1 hj).1
      rw [List.length_take] at this; omega
    rw [List.getElem?_take_of_lt hjn] at hj
    exact ⟨(ha j u hj).1, a2 j u hjn hj⟩
theorem leads_all {now nx b : Int} (hM : Dom.mayL l = 0) (h0 : 0 ≤ b) (h1 : b < Dom.totL l) {ss : List ST} (ha : Apart l ss) (t : Int) : t ∈ leadsL (stepsL l now nx b) ss b ↔ Led l now nx b ss t := by
  have := leads_mem (now := now) (nx := nx) hM h0 h1 ha ss.length (Nat.le_refl _) t
  rwa [List.take_length] at this
/- how long these rows are -/
theorem prodV_ge : ∀ (l : List Dom.V), (∀ v ∈ l, v.may = 0) → ∀ v ∈ l, v.size ≤ Dom.prodV l
  | [], _, v, hv => by simp at hv
  | u :: r, h, v, hv => by
    have h1 : 1 ≤ u.size := Dom.size_pos (h u (by simp))
    have h2 := Dom.prodV_pos r (fun v hv => h v (by simp [hv]))
    rw [Dom.prodV]
    rcases List.mem_cons.1 hv with rfl | hv
    · exact Int.le_trans (by omega) (Int.mul_le_mul_of_nonneg_left h2 (by omega))
    · have h3 := prodV_ge r (fun v hv => h v (by simp [hv])) v hv
      have h4 : 1 * Dom.prodV r ≤ u.size * Dom.prodV r := Int.mul_le_mul_of_nonneg_right h1 (by omega)
      omega
theorem size_512 {v : Dom.V} (hM : Dom.mayL l = 0) (hv : v ∈ l) : v.size ≤ 512 := by
  have h1 := prodV_ge l (Dom.mayL_all hM) v hv
  have h2 := Dom.totL_prod (Dom.mayL_zero hM).2
  have h3 := (Dom.totL_bd l).2
  omega
theorem steps_len {now nx b : Int} {s : ST} (hM : Dom.mayL l = 0) : (stepsL l now nx b s).length ≤ 512 := by
  unfold stepsL
  split
  · split
    · rename_i v hv
      have := size_512 hM (List.mem_of_getElem? hv)
      simp [allL]; omega
    · simp
  · split
    · split <;> simp
    · simp
theorem cross_len (ds xs : List Int) : (crossL ds xs).length = ds.length * xs.length := by
  unfold crossL
  induction ds with
  | nil => simp
  | cons d r ih => simp [List.flatMap_cons, ih, Nat.add_mul, Nat.add_comm]
def prodN : List Nat → Nat
  | [] => 1
  | z :: r => z * prodN r
theorem prodN_pos : ∀ {zs : List Nat}, (∀ z ∈ zs, 1 ≤ z) → 1 ≤ prodN zs
  | [], _ => Nat.le_refl _
  | z :: r, h => by
    have h1 := h z (by simp)
    have h2 := prodN_pos (zs := r) (fun z hz => h z (by simp [hz]))
    rw [prodN]
    exact Nat.le_trans h1 (Nat.le_mul_of_pos_right _ h2)
theorem prodN_set : ∀ (zs : List Nat) (k : Nat), prodN zs = zs.getD k 1 * prodN (zs.set k 1)
  | [], k => by simp [prodN]
  | z :: r, 0 => by simp [prodN]
  | z :: r, k + 1 => by
    have := prodN_set r k
    simp only [List.set_cons_succ, prodN, List.getD_cons_succ]
    rw [this, Nat.mul_left_comm]
theorem prodN_apart : ∀ (vs zs : List Nat), vs.Nodup → (∀ z ∈ zs, 1 ≤ z) → prodN (vs.map (fun k => zs.getD k 1)) ≤ prodN zs
  | [], zs, _, h => prodN_pos h
  | k :: vs, zs, hd, h => by
    rw [List.nodup_cons] at hd
    rw [prodN_set zs k, List.map_cons, prodN]
    refine Nat.mul_le_mul_left _ ?_
    have ih := prodN_apart vs (zs.set k 1) hd.2 (fun z hz => by
      rcases List.mem_or_eq_of_mem_set hz with h1 | h1
      · exact h z h1
      · omega)
    refine Nat.le_trans (Nat.le_of_eq ?_) ih
    congr 1
    refine List.map_congr_left (fun j hj => ?_)
    have : k ≠ j := fun e => hd.1 (by rw [e]; exact hj)
    simp [List.getD_eq_getElem?_getD, List.getElem?_set, this]
theorem prodN_sizes : ∀ (l : List Dom.V), (∀ v ∈ l, v.may = 0) → ((prodN (l.map (fun v => v.size.toNat)) : Nat) : Int) = Dom.prodV l
  | [], _ => rfl
  | v :: r, h => by
    have h1 : 1 ≤ v.size := Dom.size_pos (h v (by simp))
    rw [List.map_cons, prodN, Dom.prodV, Int.natCast_mul, prodN_sizes r (fun v hv => h v (by simp [hv]))]
    congr 1; omega
theorem lead_len {f : ST → List Int} {g : ST → Nat} : ∀ (ss : List ST) (xs : List Int), (∀ s ∈ ss, (f s).length ≤ g s) → (ss.foldl (fun xs s => crossL (f s) xs) xs).length ≤ prodN (ss.map g) * xs.length
  | [], xs, _ => by simp [prodN]
  | s :: r, xs, h => by
    rw [List.foldl_cons, List.map_cons, prodN]
    refine Nat.le_trans (lead_len r _ (fun s hs => h s (by simp [hs]))) ?_
    rw [cross_len, Nat.mul_comm (g s), Nat.mul_assoc]
    exact Nat.mul_le_mul_left _ (Nat.mul_le_mul_right _ (h s (by simp)))
theorem steps_size {now nx b : Int} {s : ST} (hM : Dom.mayL l = 0) : (stepsL l now nx b s).length ≤ (l.map (fun v => v.size.toNat)).getD s.var.toNat 1 := by
  have h1 : 1 ≤ (l.map (fun v => v.size.toNat)).getD s.var.toNat 1 := by
    rw [List.getD_eq_getElem?_getD, List.getElem?_map]
    cases h : l[s.var.toNat]? with
    | none => simp
    | some v =>
      have : 1 ≤ v.size := Dom.size_pos (Dom.mayL_all hM v (List.mem_of_getElem? h))
      simp; omega
  unfold stepsL
  split
  · split
    · rename_i v hv
      rw [List.getD_eq_getElem?_getD, List.getElem?_map, hv]
      simp [allL]
    · simp
  · split
    · split
      · exact h1
      · exact Nat.zero_le _
    · exact Nat.zero_le _
theorem Apart.take {ss : List ST} (h : Apart l ss) (n : Nat) : Apart l (ss.take n) := fun i s hs => by
  have hi : i < n := by
    have := (List.getElem?_eq_some_iff.1 hs).1
    rw [List.length_take] at this; omega
  rw [List.getElem?_take_of_lt hi] at hs
  obtain ⟨h1, h2, h3⟩ := h i s hs
  refine ⟨h1, h2, fun j u hj hu => ?_⟩
  rw [List.getElem?_take_of_lt (by omega)] at hu
  exact h3 j u hj hu
theorem leads_512 {now nx b : Int} (hM : Dom.mayL l = 0) {ss : List ST} (ha : Apart l ss) : (leadsL (stepsL l now nx b) ss b).length ≤ 512 := by
  have h1 := lead_len (f := stepsL l now nx b) (g := fun s => (l.map (fun v => v.size.toNat)).getD s.var.toNat 1) ss [b] (fun s _ => steps_size hM)
  have hall := Dom.mayL_all hM
  have hnd : (ss.map (fun s => s.var.toNat)).Nodup := by
    rw [List.Nodup, List.pairwise_map, List.pairwise_iff_getElem]
    intro i j hi hj hij e
    obtain ⟨a1, _, a3⟩ := ha j _ (List.getElem?_eq_getElem hj)
    have a4 := (ha i _ (List.getElem?_eq_getElem hi)).1
    exact a3 i _ hij (List.getElem?_eq_getElem hi) (by omega)
  have h2 := prodN_apart (ss.map (fun s => s.var.toNat)) (l.map (fun v => v.size.toNat)) hnd (fun z hz => by
    obtain ⟨v, hv, rfl⟩ := List.mem_map.1 hz
    have : 1 ≤ v.size := Dom.size_pos (hall v hv)
    omega)
  rw [List.map_map] at h2
  have h3 := prodN_sizes l hall
  have h4 := Dom.totL_prod (Dom.mayL_zero hM).2
  have h5 := (Dom.totL_bd l).2
  unfold leadsL
  simp only [List.length_singleton, Nat.mul_one] at h1
  refine Nat.le_trans h1 (Nat.le_trans h2 ?_)
  omega
end
end Go.Proofs.YtbppdalfcldodaaGreat
namespace Go.Proofs.YtbppdalfcldodaaGreat
open Go.RowKit Ex
set_option linter.unusedSimpArgs false
set_option linter.unusedVariables false

theorem own_below {w w' : World} {base e sz n c : Nat} {O : Option Addr} {xs : List Value} (h : w.ownsRow base e sz (.slice O n c) n xs) (hb : Below w.heap.size w w') : w'.ownsRow base e sz (.slice O n c) n xs := by
  refine ⟨h.1, ?_⟩
  rcases h.2 with h | ⟨g, cap, cur, h1, h2, h3, h4⟩
  · exact .inl h
  · exact .inr ⟨g, cap, cur, h1, h2, (hb.block g (Array.getElem?_eq_some_iff.1 h3).1).trans h3, h4⟩
theorem own_base0 {w : World} {base base2 e size n : Nat} {v : Value} {xs : List Value} (h : w.ownsRow base e size v n xs) (hb : base2 ≤ base) : w.ownsRow base2 e size v n xs := by
  refine ⟨h.1, ?_⟩
  rcases h.2 with h | ⟨g, cap, cur, h1, h2, h3⟩
  · exact .inl h
  · exact .inr ⟨g, cap, cur, h1, by omega, h3⟩

set_option maxRecDepth 100000 in
set_option maxHeartbeats 4000000 in
theorem rinitE_any (B : Nat) (x : M8) (m : MT) (w : World) (hB : B ≤ w.heap.size) (hrm : RM w B x m) :
    Calls Tryz.prog 43 #[.agg x.cells] w (IntsPost w (initEnvL m)) := by
  have hbx := (Below.refl w.heap.size w).alloc (Nat.le_refl _) (.cells x.cells 28)
  have Hrm0 := hide (hrm.below (hbx.mono hB))
  have Hbx0 := hide (boxM_new w x)
  have Hb0 := hide hbx
  have hz0 : w.heap.size + 1 ≤ (w.alloc (.cells x.cells 28)).heap.size := by simp
  have Ho := hide hrm.1
  obtain ⟨⟨vA, vn, vc⟩, ⟨io, im, iA, il, ic⟩, ⟨jo, jm, jA, jl, jc⟩, ⟨eA, en, ec⟩, ⟨sA, sn, sc⟩, ⟨aA, an, ac⟩, ⟨nA, nn, nc⟩, ⟨pA, pn, pc⟩⟩ := x
  clear hrm hbx
  simp only [M8.cells, SL.v] at *
  obtain ⟨q0, q1, q2, q3, q4, q5, q6, q7, q8, q9, q10, q11⟩ := row12 Hbx0.out
  simp only at q0 q1 q2 q3 q4 q5 q6 q7 q8 q9 q10 q11
  go_enter Tryz.func43, Tryz.ntmps43
  go_wp2_with fail
  clear q0 q1 q2 q3 q4 q5 q6 q7 q8 q9 q10 q11
  generalize w.alloc (.cells #[.slice vA vn vc, .int .i64 io, .int .i64 im, .slice iA il ic, .int .i64 jo, .int .i64 jm, .slice jA jl jc, .slice eA en ec, .slice sA sn sc, .slice aA an ac, .slice nA nn nc, .slice pA pn pc] 28) = w0 at *
  generalize hN : w.heap.size = N at *
  refine (rmod_any B ⟨⟨vA, vn, vc⟩, ⟨io, im, iA, il, ic⟩, ⟨jo, jm, jA, jl, jc⟩, ⟨eA, en, ec⟩, ⟨sA, sn, sc⟩, ⟨aA, an, ac⟩, ⟨nA, nn, nc⟩, ⟨pA, pn, pc⟩⟩ m w0 (by omega) Hrm0.out).mono ?_
  rintro e w1 ⟨rfl, hb1⟩
  have hz1 := hb1.size
  have Hb1 := hide (Hb0.out.trans (hb1.mono (by omega)))
  have Hrm1 := hide (Hrm0.out.below (hb1.mono (by omega)))
  have Hbx1 := hide (Hbx0.out.below hb1 (by omega))
  clear hb1 Hb0 Hrm0 Hbx0
  by_cases hc : modE m = 0
  · have hcb : (modE m != 0) = false := by simp [hc]
    have Hf : Hid (initEnvL m = upTo (fun p => pickB m.vars p && trueE m.vars m.ie p p) (totN m)) := hide (by unfold initEnvL; rw [if_pos hc])
    clear hc
    obtain ⟨q0, _⟩ := row12 Hbx1.out
    simp only at q0
    go_wp2_with fail
    clear q0
    refine (Dom.rtotal_any vA vn vc B m.vars w1 Ho.out.1 Ho.out.2.1 Ho.out.2.2.1 (by omega) Hrm1.out.2.1 Ho.out.2.2.2).mono ?_
    rintro e w2 ⟨rfl, hb2⟩
    have hz2 := hb2.size
    have Hb2 := hide (Hb1.out.trans (hb2.mono (by omega)))
    have Hrm2 := hide (Hrm1.out.below (hb2.mono (by omega)))
    have Hbx2 := hide (Hbx1.out.below hb2 (by omega))
    clear hb2 Hb1 Hrm1 Hbx1
    obtain ⟨t, ht, ht512⟩ : ∃ t : Nat, Dom.totL m.vars = (t : Int) ∧ t ≤ 512 := ⟨totN m, by unfold totN; have := (Dom.totL_bd m.vars).1; omega, by unfold totN; have := (Dom.totL_bd m.vars).2; omega⟩
    have htn : totN m = t := by unfold totN; rw [ht]; rfl
    rw [htn] at Hf
    rw [ht]
    clear ht htn
    go_wp2_with fail
    obtain ⟨i0, hi0, hi1, hi2, hi3⟩ := info_parts Dom.info3
    have Hi0 := hide hi0; have Hi1 := hide hi1; have Hi2 := hide hi2; have Hi3 := hide hi3
    clear hi0 hi1 hi2 hi3
    go_loopw [3, 11] (fun ov i wr => ∃ (k n c : Nat) (O : Option Addr), k ≤ t ∧ i = .int .i64 k ∧ ov = .slice O n c ∧ n ≤ k ∧ wr.ownsRow w2.heap.size 3 1 (.slice O n c) n (ints (upTo (fun p => pickB m.vars p && trueE m.vars m.ie p p) k)) ∧ Below w2.heap.size w2 wr) (fun _ i _ => t - (intOf i).toNat)
    case atStart => exact ⟨0, 0, 0, none, by omega, rfl, rfl, Nat.le_refl _, ⟨rfl, .inl ⟨rfl, rfl⟩⟩, Below.refl _ _⟩
    case round =>
      obtain ⟨k, n, c, O, hk, rfl, rfl, hn, how, hb⟩ := hrel
      have How := hide how
      have Hb := hide hb
      have hzr := hb.size
      clear how hb
      by_cases hlt : k < t
      · have hlt' : ((k : Int) < (t : Int)) := by omega
        obtain ⟨q0, _⟩ := row12 (Hbx2.out.below Hb.out (by omega))
        simp only at q0
        go_wp2_with fail
        clear q0
        refine (rpick_any B vA vn vc m.vars (k : Int) wr Ho.out (by omega) (Hrm2.out.below (Hb.out.mono (by omega))).2.1).mono ?_
        rintro e w3 ⟨rfl, hb3⟩
        have hz3 := hb3.size
        have Hb3 := hide (Hb.out.trans (hb3.mono (by omega)))
        have How3 := hide (own_below How.out hb3)
        clear hb3
        generalize hpk : pickB m.vars (k : Int) = pk at *
        cases pk
        · have Hu : Hid (upTo (fun p => pickB m.vars p && trueE m.vars m.ie p p) (k + 1) = upTo (fun p => pickB m.vars p && trueE m.vars m.ie p p) k) := hide (by rw [upTo]; simp [hpk])
          clear hpk
          go_wp2_with fail
          go_roundw
          case rel => exact ⟨k + 1, n, c, O, by omega, by go_num, rfl, by omega, by rw [Hu.out]; exact How3.out, Hb3.out⟩
          case measure => simp [intOf]; omega
        · obtain ⟨q0, q1, q2, q3, _⟩ := row12 (Hbx2.out.below Hb3.out (by omega))
          simp only at q0 q1 q2 q3
          obtain ⟨dg, hdg⟩ := (Hrm2.out.below (Hb3.out.mono (by omega))).2.2.1
          have Hdg := hide hdg
          clear hdg
          go_wp2_with fail
          clear q0 q1 q2 q3
          refine (rtrue_any B vA vn vc m.vars dg io im iA il ic m.ie (k : Int) (k : Int) w3 Ho.out.1 Ho.out.2.1 Ho.out.2.2.1 (by omega) Hdg.out (Hrm2.out.below (Hb3.out.mono (by omega))).2.1 Ho.out.2.2.2).mono ?_
          rintro e w4 ⟨rfl, hb4⟩
          have hz4 := hb4.size
          have Hb4 := hide (Hb3.out.trans (hb4.mono (by omega)))
          have How4 := hide (own_below How3.out hb4)
          clear hb4 Hdg
          generalize htr : trueE m.vars m.ie (k : Int) (k : Int) = tr at *
          cases tr
          · have Hu : Hid (upTo (fun p => pickB m.vars p && trueE m.vars m.ie p p) (k + 1) = upTo (fun p => pickB m.vars p && trueE m.vars m.ie p p) k) := hide (by rw [upTo]; simp [htr])
            clear hpk htr
            go_wp2_with fail
            go_roundw
            case rel => exact ⟨k + 1, n, c, O, by omega, by go_num, rfl, by omega, by rw [Hu.out]; exact How4.out, Hb4.out⟩
            case measure => simp [intOf]; omega
          · have Hu : Hid (upTo (fun p => pickB m.vars p && trueE m.vars m.ie p p) (k + 1) = upTo (fun p => pickB m.vars p && trueE m.vars m.ie p p) k ++ [(k : Int)]) := hide (by rw [upTo]; simp [htr, hpk])
            clear hpk htr
            go_wp2_with (at_builtin; refine wpList_append_lies _ rfl _ _ _ rfl w2.heap.size 3 i0 _ 1 8 Tryz.underlying32 Hi0.out Hi1.out Hi2.out Hi3.out rfl (by omega) (.slice O n c) n (ints (upTo (fun p => pickB m.vars p && trueE m.vars m.ie p p) k)) rfl (How4.out.alloc _) ⟨w4.heap.size, 0, none⟩ 1 1 [.int .i64 (k : Int)] rfl rfl (World.news_of_block (cs := #[.int .i64 (k : Int)]) (t := 3) (fr := (0, 0)) (heap_alloc_new w4 _)) (by simp [Value.oneCell']) (by omega) (by unfold maxLen; omega) (by omega) (by simp; omega) _ rfl ?_; intro g5 cap5 w5 hown5 hgrow5 hat5 hlt5)
            have hb5 : Below w2.heap.size w2 w5 := (Hb4.out.alloc (by omega) _).grown hgrow5 (by simp; omega) (fun j hj => by have := (How4.out.lt j hj).1; omega)
            have Ho5 := hide hown5
            rw [ints_snoc, ← Hu.out] at Ho5
            clear hown5 hgrow5 hat5
            go_roundw
            case rel => exact ⟨k + 1, n + 1, cap5, some ⟨g5, 0, none⟩, by omega, by go_num, rfl, by omega, Ho5.out, hb5⟩
            case measure => simp [intOf]; omega
      · have hlt' : ¬ ((k : Int) < (t : Int)) := by omega
        obtain rfl : k = t := by omega
        go_wp2_with fail
        go_ret
        rw [Hf.out, ← hN] at *
        exact ⟨O, n, c, rfl, own_base0 How.out (by omega), by have := How.out.1; simpa [ints] using this, Hb2.out.trans (Hb.out.mono (by omega))⟩
  · have hcb : (modE m != 0) = true := by simp [hc]
    have Hf : Hid (initEnvL m = []) := hide (by unfold initEnvL; rw [if_neg (hc)])
    clear hc
    go_wp2_with fail
    go_ret
    rw [Hf.out, ← hN] at *
    exact ints_none Hb1.out
end Go.Proofs.YtbppdalfcldodaaGreat
namespace Go.Proofs.YtbppdalfcldodaaGreat
open Go.RowKit Ex
set_option linter.unusedSimpArgs false
set_option linter.unusedVariables false

def stB (l : List Dom.V) (s : Int) : Bool := decide (0 ≤ s) && decide (s < Dom.totL l)
theorem stB_iff {l : List Dom.V} {s : Int} : stB l s = true ↔ 0 ≤ s ∧ s < Dom.totL l := by simp [stB]
theorem part_no {l : List Dom.V} {s : Int} (h : stB l s = false) : Dom.partL l s true = -1 := by
  unfold Dom.partL
  rw [if_neg]
  intro hg
  obtain ⟨_, h1, h2⟩ := Dom.goodS_true hg
  rw [stB_iff.2 ⟨h1, h2⟩] at h; cases h
theorem pick_st (l : List Dom.V) (s : Int) : (stB l s && (Dom.partL l s true == s)) = pickB l s := by
  unfold pickB
  cases hs : stB l s with
  | true => simp [(stB_iff.1 hs).1]
  | false =>
    rw [part_no hs, Bool.false_and]
    by_cases h0 : 0 ≤ s
    · have : ((-1 : Int) == s) = false := by simp; omega
      rw [this, Bool.and_false]
    · have : decide (0 ≤ s) = false := by simp; omega
      rw [this, Bool.false_and]
set_option maxHeartbeats 400000 in
theorem state_any6 (B : Nat) (Av : Option Addr) (nv cv : Nat) (lv : List Dom.V) (p : Int) (w : World) (ho : OkVars ⟨Av, nv, cv⟩ lv) (hB : B ≤ w.heap.size) (hrv : Dom.RV w B Av nv lv) :
    Calls Tryz.prog 61 #[.slice Av nv cv, .int .i64 p] w fun e w' => e = .returned (.bool (stB lv p)) ∧ Below w.heap.size w w' := by
  have Hs : Hid (stB lv p = (decide (0 ≤ p) && decide (p < Dom.totL lv))) := hide rfl
  by_cases h0 : 0 ≤ p
  · have hb : decide (0 ≤ p) = true := by simp [h0]
    have Hf : Hid (stB lv p = decide (p < Dom.totL lv)) := hide (by rw [Hs.out, hb]; rfl)
    go_enter Tryz.func61, Tryz.ntmps61
    go_wp2_with fail
    refine (Dom.total_any Av nv cv B lv w ho.1 hB hrv).mono ?_
    rintro e w1 ⟨rfl, hb1⟩
    go_wp2_with fail
    go_ret
    exact ⟨ret_bool Hf.out.symm, hb1⟩
  · have hb : decide (0 ≤ p) = false := by simp; omega
    have Hf : Hid (stB lv p = false) := hide (by rw [Hs.out, hb]; rfl)
    go_enter Tryz.func61, Tryz.ntmps61
    go_wp2_with fail
    go_ret
    exact ⟨ret_bool Hf.out.symm, Below.refl _ _⟩
set_option maxHeartbeats 400000 in
theorem pick_any6 (B : Nat) (Av : Option Addr) (nv cv : Nat) (lv : List Dom.V) (p : Int) (w : World) (ho : OkVars ⟨Av, nv, cv⟩ lv) (hB : B ≤ w.heap.size) (hrv : Dom.RV w B Av nv lv) :
    Calls Tryz.prog 60 #[.slice Av nv cv, .int .i64 p] w fun e w' => e = .returned (.bool (pickB lv p)) ∧ Below w.heap.size w w' := by
  have Hs : Hid (pickB lv p = (stB lv p && (Dom.partL lv p true == p))) := hide (pick_st lv p).symm
  have Hrv := hide hrv
  have Ho := hide ho
  clear hrv ho
  go_enter Tryz.func60, Tryz.ntmps60
  go_wp2_with fail
  refine (state_any6 B Av nv cv lv p w Ho.out hB Hrv.out).mono ?_
  rintro e w1 ⟨rfl, hb1⟩
  have hz1 := hb1.size
  generalize hst : stB lv p = st at *
  cases st
  · have Hf : Hid (pickB lv p = false) := hide (by rw [Hs.out]; rfl)
    go_wp2_with fail
    go_ret
    exact ⟨ret_bool Hf.out.symm, hb1⟩
  · have Hf : Hid (pickB lv p = (Dom.partL lv p true == p)) := hide (by rw [Hs.out]; rfl)
    go_wp2_with fail
    refine (Dom.part_any Av nv cv B lv p true w1 Ho.out.1 (by omega) (Hrv.out.below (hb1.mono hB)) Ho.out.2.2.2).mono ?_
    rintro e w2 ⟨rfl, hb2⟩
    go_wp2_with fail
    go_ret
    exact ⟨ret_bool Hf.out.symm, hb1.trans (hb2.mono hz1)⟩
/- a row of bools, read off -/
set_option maxHeartbeats 1000000 in
theorem listed_any (g n : Nat) (f : Nat → Bool) (w : World) (hr : w.rowIs g 4 n (fun i => .bool (f i))) (hn : n ≤ 512) :
    Calls Tryz.prog 91 #[.slice (some ⟨g, 0, none⟩) n n] w (IntsPost w (upTo (fun i => f i.toNat) n)) := by
  have hg : g < w.heap.size := hr.lt
  have Hr := hide hr
  clear hr
  obtain ⟨i0, hi0, hi1, hi2, hi3⟩ := info_parts Dom.info3
  have Hi0 := hide hi0; have Hi1 := hide hi1; have Hi2 := hide hi2; have Hi3 := hide hi3
  clear hi0 hi1 hi2 hi3
  go_enter Tryz.func91, Tryz.ntmps91
  go_wp2_with fail
  go_loopw [3, 8] (fun ov i wr => ∃ (k m c : Nat) (O : Option Addr), k ≤ n ∧ i = .int .i64 k ∧ ov = .slice O m c ∧ m ≤ k ∧ wr.ownsRow w.heap.size 3 1 (.slice O m c) m (ints (upTo (fun i => f i.toNat) k)) ∧ Below w.heap.size w wr) (fun _ i _ => n - (intOf i).toNat)
  case atStart => exact ⟨0, 0, 0, none, by omega, rfl, rfl, Nat.le_refl _, ⟨rfl, .inl ⟨rfl, rfl⟩⟩, Below.refl _ _⟩
  case round =>
    obtain ⟨k, m, c, O, hk, rfl, rfl, hm, how, hb⟩ := hrel
    have How := hide how
    have Hb := hide hb
    have hzr := hb.size
    clear how hb
    by_cases hlt : k < n
    · have hlt' : ((k : Int) < (n : Int)) := by omega
      have hc : wr.cell? ⟨g, k, none⟩ = some (.bool (f k)) := by rw [Hb.out.cell hg]; exact Hr.out.cell hlt
      generalize hfk : f k = fk at *
      cases fk
      · have Hu : Hid (upTo (fun i => f i.toNat) (k + 1) = upTo (fun i => f i.toNat) k) := hide (by rw [upTo]; simp [hfk])
        go_wp2_with fail
        go_roundw
        case rel => exact ⟨k + 1, m, c, O, by omega, by go_num, rfl, by omega, by rw [Hu.out]; exact How.out, Hb.out⟩
        case measure => simp [intOf]; omega
      · have Hu : Hid (upTo (fun i => f i.toNat) (k + 1) = upTo (fun i => f i.toNat) k ++ [(k : Int)]) := hide (by rw [upTo]; simp [hfk])
        clear hfk
        go_wp2_with (at_builtin; refine wpList_append_lies _ rfl _ _ _ rfl w.heap.size 3 i0 _ 1 8 Tryz.underlying32 Hi0.out Hi1.out Hi2.out Hi3.out rfl (by omega) (.slice O m c) m (ints (upTo (fun i => f i.toNat) k)) rfl (How.out.alloc _) ⟨wr.heap.size, 0, none⟩ 1 1 [.int .i64 (k : Int)] rfl rfl (World.news_of_block (cs := #[.int .i64 (k : Int)]) (t := 3) (fr := (0, 0)) (heap_alloc_new wr _)) (by simp [Value.oneCell']) (by omega) (by unfold maxLen; omega) (by omega) (by simp; omega) _ rfl ?_; intro g5 cap5 w5 hown5 hgrow5 hat5 hlt5)
        have hb5 : Below w.heap.size w w5 := (Hb.out.alloc (by omega) _).grown hgrow5 (by simp; omega) (fun j hj => by have := (How.out.lt j hj).1; omega)
        have Ho5 := hide hown5
        rw [ints_snoc, ← Hu.out] at Ho5
        clear hown5 hgrow5 hat5
        go_roundw
        case rel => exact ⟨k + 1, m + 1, cap5, some ⟨g5, 0, none⟩, by omega, by go_num, rfl, by omega, Ho5.out, hb5⟩
        case measure => simp [intOf]; omega
    · have hlt' : ¬ ((k : Int) < (n : Int)) := by omega
      obtain rfl : k = n := by omega
      go_wp2_with fail
      go_ret
      exact ⟨O, m, c, rfl, How.out, by have := How.out.1; simpa [ints] using this, Hb.out⟩
end Go.Proofs.YtbppdalfcldodaaGreat
namespace Go.Proofs.YtbppdalfcldodaaGreat
open Go.RowKit Ex
set_option linter.unusedSimpArgs false
set_option linter.unusedVariables false

theorem info4 : (Tryz.prog.info? 4).map (fun i => (i.zero, i.size, i.bytes)) = some (some (.bool false), 1, 1) := by kernel_rfl
theorem ints_up {w w1 w' : World} {xs : List Int} {e : Ending} (h : IntsPost w1 xs e w') (hb : Below w.heap.size w w1) : IntsPost w xs e w' := by
  obtain ⟨O, n, c, h1, h2, h3, h4⟩ := h
  exact ⟨O, n, c, h1, own_base0 h2 hb.size, h3, hb.trans (h4.mono hb.size)⟩
theorem mem_take_succ {xs : List Int} {k : Nat} {x : Int} (h : xs[k]? = some x) (y : Int) : decide (y ∈ xs.take (k + 1)) = (decide (y ∈ xs.take k) || decide (y = x)) := by
  rw [List.take_add_one, h, ← Bool.decide_or]
  simp
def markV (xs : List Int) (f : Int → Bool) (k : Nat) (i : Nat) : Value := .bool (decide ((i : Int) ∈ xs.take k) && f (i : Int))
theorem mark_step {xs : List Int} {f : Int → Bool} {k x : Nat} (h : xs[k]? = some (x : Int)) (i : Nat) : (if i = x then Value.bool (f (x : Int)) else markV xs f k i) = markV xs f (k + 1) i := by
  unfold markV
  rw [mem_take_succ h]
  by_cases e : i = x
  · subst e; rw [if_pos rfl]; simp
  · rw [if_neg e]
    have : decide ((i : Int) = (x : Int)) = false := by simp; omega
    rw [this, Bool.or_false]

set_option maxHeartbeats 1000000 in
theorem begin_any (B : Nat) (Av : Option Addr) (nv cv : Nat) (lv : List Dom.V) (O : Option Addr) (n c : Nat) (xs : List Int) (op m : Int) (A : Option Addr) (len cap : Nat) (t : T) (d : Nat) (w : World) (ho : OkVars ⟨Av, nv, cv⟩ lv) (hB : B ≤ w.heap.size)
    (hrv : Dom.RV w B Av nv lv) (hri : Dom.RI w w.heap.size O n xs) (hre : RE w B d op m A len cap t) (hx : ∀ x ∈ xs, 0 ≤ x ∧ x < Dom.totL lv) (hn : n ≤ 2 ^ 60) (tn : Nat) (ht : Dom.totL lv = (tn : Int)) (ht512 : tn ≤ 512) :
    Calls Tryz.prog 59 #[.slice Av nv cv, .slice O n c, .agg #[.int .i64 op, .int .i64 m, .slice A len cap]] w (IntsPost w (upTo (fun i => decide (i ∈ xs) && trueE lv t i i) tn)) := by
  have hbx : Below w.heap.size w (w.alloc (.cells #[.int .i64 op, .int .i64 m, .slice A len cap] 25)) := (Below.refl _ _).alloc (Nat.le_refl _) _
  have Hre := hide (hre.below (hbx.mono hB))
  have Hrv := hide (hrv.below (hbx.mono hB))
  have Hri := hide (hri.below hbx)
  have Hbox := hide (Ex.box_new w op m A len cap 25)
  have hz0 : w.heap.size + 1 ≤ (w.alloc (.cells #[.int .i64 op, .int .i64 m, .slice A len cap] 25)).heap.size := by simp
  have Hbx := hide hbx
  have Hxs := hide hri.1
  have Hx := hide hx
  have Ho := hide ho
  clear hre hrv hri hbx hx ho
  obtain ⟨f0, f1, f2⟩ := Hbox.out
  go_enter Tryz.func59, Tryz.ntmps59
  go_wp2_with fail
  clear f0 f1 f2
  generalize w.alloc (.cells #[.int .i64 op, .int .i64 m, .slice A len cap] 25) = W at *
  refine (Dom.total_any Av nv cv B lv W Ho.out.1 (by omega) Hrv.out).mono ?_
  rintro e w1 ⟨rfl, hb1⟩
  have hz1 := hb1.size
  have Hb1 := hide (Hbx.out.trans (hb1.mono (by omega)))
  have Hre1 := hide (Hre.out.below (hb1.mono (by omega)))
  have Hrv1 := hide (Hrv.out.below (hb1.mono (by omega)))
  have Hri1 := hide (Hri.out.below (hb1.mono (by omega)))
  have Hbox1 := hide (Hbox.out.below hb1 (by omega))
  clear hb1 Hre Hrv Hri Hbox Hbx
  have Hx1 : Hid (∀ x ∈ xs, 0 ≤ x ∧ x < (tn : Int)) := hide (by rw [← ht]; exact Hx.out)
  clear Hx
  rw [ht]
  clear ht
  have hmk := run_make_row' (P := Tryz.prog) 47 4 (.bool false) 1 Tryz.underlying47 info4 rfl .i64 .i64 tn (by omega) (by omega)
  go_wp2_with fail
  clear hmk
  have hrow := World.rowIs_made w1 (.bool false) tn 4
  have Hb2 := hide ((Below.refl w1.heap.size w1).alloc (Nat.le_refl _) (.cells (madeCells #[.bool false] tn) 4))
  generalize hw2 : w1.alloc (.cells (madeCells #[.bool false] tn) 4) = w2 at *
  clear hw2
  go_loopw [15] (fun i wr => ∃ k : Nat, k ≤ n ∧ i = .int .i64 k ∧ wr.rowIs w1.heap.size 4 tn (markV xs (fun i => trueE lv t i i) k) ∧ Below w1.heap.size w1 wr) (fun i _ => n - (intOf i).toNat)
  case atStart => exact ⟨0, by omega, rfl, hrow.congr (fun i hi => by simp [markV]), Hb2.out⟩
  case round =>
    obtain ⟨k, hk, rfl, hrw, hb⟩ := hrel
    have Hrw := hide hrw
    have Hb := hide hb
    have hzr := hb.size
    clear hrw hb hrow Hb2
    by_cases hlt : k < n
    · have hlt' : ((k : Int) < (n : Int)) := by omega
      obtain ⟨b, off, x, rfl, hbB, hlk, hcx⟩ := (Hri1.out.below (Hb.out.mono (by omega))).at_ hlt
      obtain ⟨x0, x1⟩ := Hx1.out x (List.mem_of_getElem? hlk)
      obtain ⟨xn, rfl⟩ := Int.eq_ofNat_of_zero_le x0
      have hxt : xn < tn := by omega
      obtain ⟨f0, f1, f2⟩ := Hbox1.out.below Hb.out (by omega)
      go_wp2_with fail
      clear f0 f1 f2 hcx
      refine (dtrue_any B Av nv cv lv d op m A len cap t (xn : Int) (xn : Int) wr Ho.out.1 Ho.out.2.1 Ho.out.2.2.1 (by omega) (Hre1.out.below (Hb.out.mono (by omega))) (Hrv1.out.below (Hb.out.mono (by omega))) Ho.out.2.2.2).mono ?_
      rintro e w3 ⟨rfl, hb3⟩
      have hz3 := hb3.size
      have hlz := Hrw.out.lt
      have Hrw3 := hide (Hrw.out.of_block (hb3.block w1.heap.size (by omega)))
      have Hb3 := hide (Hb.out.trans (hb3.mono (by omega)))
      clear hb3 Hrw
      obtain ⟨u, hu⟩ : ∃ u, w3.cell? ⟨w1.heap.size, xn, none⟩ = some u := ⟨_, Hrw3.out.cell hxt⟩
      have hfz := Hrw3.out.frozen xn
      go_wp2_with fail
      go_roundw
      case rel => exact ⟨k + 1, by omega, by go_num, (Hrw3.out.set xn _).congr (fun i hi => mark_step (f := fun i => trueE lv t i i) hlk i), Hb3.out.setCell (by show w1.heap.size ≤ w1.heap.size; omega) _⟩
      case measure => simp [intOf]; omega
    · have hlt' : ¬ ((k : Int) < (n : Int)) := by omega
      obtain rfl : k = n := by omega
      go_wp2_with fail
      have Hall : Hid (wr.rowIs w1.heap.size 4 tn (fun i => .bool (decide ((i : Int) ∈ xs) && trueE lv t (i : Int) (i : Int)))) := hide (Hrw.out.congr (fun i hi => by unfold markV; rw [← Hxs.out, List.take_length]))
      refine (listed_any w1.heap.size tn (fun i => decide ((i : Int) ∈ xs) && trueE lv t (i : Int) (i : Int)) wr Hall.out ht512).mono ?_
      intro e w4 hp
      obtain ⟨O4, n4, c4, rfl, p2, p3, p4⟩ := hp
      have Hp : Hid (IntsPost w (upTo (fun i => decide (i ∈ xs) && trueE lv t i i) tn) (.returned (.slice O4 n4 c4)) w4) := hide (by
        refine ints_up (w1 := wr) ?_ (Hb1.out.trans (Hb.out.mono (by omega)))
        rw [show upTo (fun i => decide (i ∈ xs) && trueE lv t i i) tn = upTo (fun i => decide (((i.toNat : Nat) : Int) ∈ xs) && trueE lv t ((i.toNat : Nat) : Int) ((i.toNat : Nat) : Int)) tn from upTo_congr (fun k _ => by rw [Int.toNat_natCast])]
        exact ⟨O4, n4, c4, rfl, p2, p3, p4⟩)
      clear p2 p3 p4
      go_wp2_with fail
      go_ret
      exact Hp.out
end Go.Proofs.YtbppdalfcldodaaGreat
