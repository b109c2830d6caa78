/- The walks of the reference's bit and value. The walk of the reference's value. The walks of the reference's Value and True. -/
import Derived.Test.YtohegmnfmomjaaaGSort
import Derived.Test.YtohegmnfmomjaaaGRef
namespace Go.Proofs.Ytohegmnfmomjaaa
open Go.RowKit Ex
set_option linter.unusedSimpArgs false
set_option linter.unusedVariables false

def bitI (p : Bool) : Int := if p = true then 1 else 0
def vOp (op x y : Int) : Int := if op = 9 then bitI (x == y) else if op = 10 then bitI (decide (x < y)) else if op = 11 then bitI (decide (x ≤ y)) else if op = 12 then x + y else if op = 13 then x - y else if op = 14 then x * y else y
def vIn (z : Int) : Option Int := if -1000 ≤ z ∧ z ≤ 1000 then some z else none
def vN (a b : List Int) (op n : Int) (vs : List (Option Int)) : Option Int :=
  if op = 1 ∨ op = 2 then some n else if op = 3 then some (a.getD n.toNat 0) else if op = 4 then some (b.getD n.toNat 0)
  else match vs.getD 0 none with
    | none => none
    | some x => if op = 5 then some (1 - x) else if op = 6 ∧ x = 0 then some 0 else if (op = 7 ∧ x = 1) ∨ (op = 8 ∧ x = 0) then some 1 else if op = 15 ∧ x = 0 then vs.getD 2 none
      else match vs.getD 1 none with
        | none => none
        | some y => vIn (vOp op x y)
mutual
def vT (a b : List Int) : T → Option Int
  | .mk op n ks => vN a b op n (vK a b ks)
def vK (a b : List Int) : List T → List (Option Int)
  | [] => []
  | k :: r => vT a b k :: vK a b r
end
theorem vT_eq (a b : List Int) (t : T) : vT a b t = vN a b t.op t.n (vK a b t.kids) := by cases t; rw [vT]; rfl
theorem vK_at (a b : List Int) : ∀ (ks : List T) (k : Nat) (u : T), ks[k]? = some u → (vK a b ks).getD k none = vT a b u
  | [], k, u, h => by simp at h
  | c :: r, 0, u, h => by simp at h; subst h; rw [vK]; rfl
  | c :: r, k + 1, u, h => by
    rw [vK]
    have := vK_at a b r k u (by simpa using h)
    simpa [List.getD] using this
def Small (l : List Int) : Prop := ∀ x ∈ l, -1000 ≤ x ∧ x ≤ 1000
theorem small_getD {l : List Int} (h : Small l) (i : Nat) : -1000 ≤ l.getD i 0 ∧ l.getD i 0 ≤ 1000 := by
  unfold List.getD
  cases hi : l[i]? with
  | none => simp
  | some x => exact h x (List.mem_of_getElem? hi)
theorem vIn_bd {z x : Int} (h : vIn z = some x) : -1000 ≤ x ∧ x ≤ 1000 := by
  unfold vIn at h
  split at h
  · injection h with h; subst h; assumption
  · cases h
theorem vN_bd {a b : List Int} (ha : Small a) (hb : Small b) {op n x : Int} {vs : List (Option Int)} (hn : -1000 ≤ n ∧ n ≤ 1000) (hvs : ∀ k y, vs.getD k none = some y → -1000 ≤ y ∧ y ≤ 1001) (h : vN a b op n vs = some x) : -1000 ≤ x ∧ x ≤ 1001 := by
  unfold vN at h
  split at h
  · injection h with h; omega
  · split at h
    · injection h with h; have := small_getD ha n.toNat; omega
    · split at h
      · injection h with h; have := small_getD hb n.toNat; omega
      · split at h
        · cases h
        · rename_i y hy
          have hy2 := hvs 0 y hy
          split at h
          · injection h with h; omega
          · split at h
            · injection h with h; omega
            · split at h
              · injection h with h; omega
              · split at h
                · exact hvs 2 x h
                · split at h
                  · cases h
                  · have := vIn_bd h; omega
mutual
theorem vT_bd {a b : List Int} (ha : Small a) (hb : Small b) : ∀ (t : T) (x : Int), sound t = true → vT a b t = some x → -1000 ≤ x ∧ x ≤ 1001
  | .mk op n ks, x, hs, h => by
    rw [vT] at h
    have hk := sound_kids hs
    have hn := sound_small hs
    simp only [T.kids, T.n] at hk hn
    exact vN_bd ha hb hn (fun k y hy => vK_bd ha hb ks k y hk hy) h
theorem vK_bd {a b : List Int} (ha : Small a) (hb : Small b) : ∀ (ks : List T) (k : Nat) (y : Int), soundK ks = true → (vK a b ks).getD k none = some y → -1000 ≤ y ∧ y ≤ 1001
  | [], k, y, _, h => by rw [vK] at h; simp [List.getD] at h
  | c :: r, 0, y, hs, h => by
    rw [soundK, Bool.and_eq_true] at hs
    rw [vK] at h
    exact vT_bd ha hb c y hs.1 (by simpa [List.getD] using h)
  | c :: r, k + 1, y, hs, h => by
    rw [soundK, Bool.and_eq_true] at hs
    rw [vK] at h
    exact vK_bd ha hb r k y hs.2 (by simpa [List.getD] using h)
end
theorem rdK_at : ∀ (ks : List T) (k : Nat) (u : T) (op : Int) (i : Nat), ks[k]? = some u → rdT u op i = true → rdK ks op i = true
  | [], k, u, op, i, h, _ => by simp at h
  | c :: r, 0, u, op, i, h, hr => by simp at h; subst h; rw [rdK, hr]; rfl
  | c :: r, k + 1, u, op, i, h, hr => by rw [rdK, rdK_at r k u op i (by simpa using h) hr]; simp
def ValPost (v : Option Int) (w : World) (e : Ending) (w' : World) : Prop := ∃ (x : Int) (ok : Bool), e = .returned (.tuple #[.int .i64 x, .bool ok]) ∧ v = (if ok = true then some x else none) ∧ Below w.heap.size w w'
end Go.Proofs.Ytohegmnfmomjaaa
namespace Go.Proofs.Ytohegmnfmomjaaa
open Go.RowKit Ex
set_option linter.unusedSimpArgs false
set_option linter.unusedVariables false

theorem sound_len15' {t : T} (h : sound t = true) : (t.kids.length : Int) = kidsOf t.op := by
  rw [sound_eq, nodeB_eq, Bool.and_eq_true, Bool.and_eq_true] at h
  simpa using h.1.1
theorem mul_bd {x y : Int} (x1 : -1000 ≤ x) (x2 : x ≤ 1001) (y1 : -1000 ≤ y) (y2 : y ≤ 1001) : -1002001 ≤ x * y ∧ x * y ≤ 1002001 := by
  have h1 : 0 ≤ (1001 - x) * (1001 + y) := Int.mul_nonneg (by omega) (by omega)
  have h2 : 0 ≤ (1001 + x) * (1001 - y) := Int.mul_nonneg (by omega) (by omega)
  have h3 : 0 ≤ (1001 - x) * (1001 - y) := Int.mul_nonneg (by omega) (by omega)
  have h4 : 0 ≤ (1001 + x) * (1001 + y) := Int.mul_nonneg (by omega) (by omega)
  simp only [Int.sub_mul, Int.add_mul, Int.mul_sub, Int.mul_add] at h1 h2 h3 h4
  generalize x * y = z at *
  omega

end Go.Proofs.Ytohegmnfmomjaaa
namespace Go.Proofs.Ytohegmnfmomjaaa
open Go.RowKit Ex
set_option linter.unusedSimpArgs false
set_option linter.unusedVariables false

def isSt (l : List Dom.V) (s : Int) : Bool := decide (0 ≤ s ∧ s < Dom.totL l)
def valP (v : Option Int) : Int × Int := match v with
  | some n => (n, 0)
  | none => (0, 6)
def valE (l : List Dom.V) (t : T) (now next : Int) : Int × Int :=
  if (sortE l t).2 = 0 then (if isSt l now = true ∧ isSt l next = true then valP (vT (Dom.valsL l now) (Dom.valsL l next) t) else (0, 1)) else (0, (sortE l t).2)
def trueE (l : List Dom.V) (t : T) (now next : Int) : Bool := ((valE l t now next).2 == 0) && ((sortE l t).1 == 1) && ((valE l t now next).1 == 1)
theorem mayGo_all' : ∀ (l : List Dom.V) (seen : List (List UInt8)), Dom.mayGo seen l = 0 → ∀ v ∈ l, v.may = 0
  | [], _, _, v, hv => by simp at hv
  | u :: r, seen, h, v, hv => by
    rw [Dom.mayGo] at h
    split at h
    · omega
    · split at h
      · rename_i h2; exact absurd h h2
      · rename_i h2
        rcases List.mem_cons.1 hv with rfl | hv
        · exact Decidable.byContradiction h2
        · exact mayGo_all' r _ h v hv
theorem may_each {l : List Dom.V} (h : Dom.mayL l = 0) : ∀ v ∈ l, v.may = 0 := by
  have hg : Dom.mayGo [] l = 0 := by
    unfold Dom.mayL at h
    split at h
    · rename_i h2; exact absurd h h2
    · rename_i h2; exact Decidable.byContradiction h2
  exact mayGo_all' l [] hg
theorem val_one {v : Dom.V} (h : v.may = 0) (s : Int) : -1000 ≤ v.lo + s % v.size ∧ v.lo + s % v.size ≤ 1000 := by
  unfold Dom.V.may Dom.mayOfV at h
  unfold Dom.V.size Dom.sizeOfV
  split at h
  · rename_i h1
    rw [if_pos h1]
    split at h
    · omega
    · omega
  · rename_i h1
    rw [if_neg h1]
    split at h
    · rename_i h2
      split at h
      · rename_i h3
        rw [if_pos ⟨h2, h3⟩]
        have := Dom.range_true h3
        have hp : 0 < v.hi - v.lo + 1 := by omega
        have h4 := Int.emod_nonneg s (show v.hi - v.lo + 1 ≠ 0 by omega)
        have h5 := Int.emod_lt_of_pos s hp
        omega
      · omega
    · omega
theorem vals_small : ∀ (l : List Dom.V) (s : Int), (∀ v ∈ l, v.may = 0) → Small (Dom.valsL l s)
  | [], s, _, x, hx => by simp [Dom.valsL] at hx
  | v :: r, s, h, x, hx => by
    rw [Dom.valsL] at hx
    rcases List.mem_cons.1 hx with rfl | hx
    · exact val_one (h v (by simp)) s
    · exact vals_small r _ (fun u hu => h u (by simp [hu])) x hx

end Go.Proofs.Ytohegmnfmomjaaa
