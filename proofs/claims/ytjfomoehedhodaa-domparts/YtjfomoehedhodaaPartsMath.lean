/- Numbers behind the statement DomParts. -/
import Derived.Test.YtjfomoehedhodaaWith
namespace Go.Proofs.Ytjfomoehedhodaa
open Go.RowKit
set_option linter.unusedSimpArgs false

theorem num_range : ∀ (l : List V) (xs : List Int), (∀ v ∈ l, v.may = 0) → hasAll l xs = true → xs.length = l.length → 0 ≤ numL l xs ∧ numL l xs < prodV l
  | [], [], _, _, _ => by simp [numL, prodV]
  | [], _ :: _, _, _, h => by simp at h
  | _ :: _, [], _, _, h => by simp at h
  | v :: r, x :: xs, h, ha, hl => by
    rw [hasAll, Bool.and_eq_true] at ha
    obtain ⟨h1, h2⟩ := num_range r xs (fun u hu => h u (by simp [hu])) ha.2 (by simpa using hl)
    obtain ⟨h3, h4⟩ := has_bd ha.1
    have h5 : 1 ≤ v.size := size_pos (h v (by simp))
    have h6 : sizeOfV v.srt v.lo v.hi = v.size := rfl
    rw [h6] at h4
    rw [numL, prodV]
    have h7 : 0 ≤ v.size * numL r xs := Int.mul_nonneg (by omega) h1
    have h8 : v.size * numL r xs ≤ v.size * (prodV r - 1) := Int.mul_le_mul_of_nonneg_left (by omega) (by omega)
    have h9 : v.size * (prodV r - 1) = v.size * prodV r - v.size := by rw [Int.mul_sub, Int.mul_one]
    omega
theorem vals_num : ∀ (l : List V) (xs : List Int), (∀ v ∈ l, v.may = 0) → hasAll l xs = true → xs.length = l.length → valsL l (numL l xs) = xs
  | [], [], _, _, _ => by simp [numL, valsL]
  | [], _ :: _, _, _, h => by simp at h
  | _ :: _, [], _, _, h => by simp at h
  | v :: r, x :: xs, h, ha, hl => by
    rw [hasAll, Bool.and_eq_true] at ha
    obtain ⟨h3, h4⟩ := has_bd ha.1
    have h5 : 1 ≤ v.size := size_pos (h v (by simp))
    have h6 : sizeOfV v.srt v.lo v.hi = v.size := rfl
    rw [h6] at h4
    rw [numL, valsL]
    have e1 : (x - v.lo + v.size * numL r xs) % v.size = x - v.lo := by
      rw [Int.add_mul_emod_self_left, Int.emod_eq_of_lt (by omega) (by omega)]
    have e2 : (x - v.lo + v.size * numL r xs) / v.size = numL r xs := by
      rw [Int.add_mul_ediv_left _ _ (by omega), Int.ediv_eq_zero_of_lt (by omega) (by omega), Int.zero_add]
    rw [e1, e2, vals_num r xs (fun u hu => h u (by simp [hu])) ha.2 (by simpa using hl)]
    congr 1; omega
theorem pick_same (e : Bool) : ∀ (l : List V) (xs : List Int), pickL e l (pickL e l xs) = pickL e l xs
  | [], _ => by simp [pickL]
  | _ :: _, [] => by simp [pickL]
  | v :: r, x :: xs => by
    simp only [pickL, pick_same e r xs]
    congr 1
    split <;> rfl
theorem pick_other : ∀ (l : List V) (xs : List Int), pickL false l (pickL true l xs) = pickL true l (pickL false l xs)
  | [], _ => by simp [pickL]
  | _ :: _, [] => by simp [pickL]
  | v :: r, x :: xs => by
    simp only [pickL, pick_other r xs]
    congr 1
    cases v.env <;> simp
/- what Part makes of a state is a state, with these values -/
theorem part_good {l : List V} {m : Int} (e : Bool) (hM : mayL l = 0) (h0 : 0 ≤ m) (h1 : m < totL l) :
    0 ≤ partL l m e ∧ partL l m e < totL l ∧ valsL l (partL l m e) = pickL e l (valsL l m) := by
  have hall := mayL_all hM
  have hg : goodS l m = true := by simp [goodS, hM, h0, h1]
  have hp : partL l m e = numL l (pickL e l (valsL l m)) := by unfold partL; rw [hg]; rfl
  have hh := has_pick e l _ hall (has_vals l m hall)
  have hl := pickL_length e l _ (valsL_length l m)
  obtain ⟨r1, r2⟩ := num_range l _ hall hh hl
  rw [hp, totL_prod (mayL_zero hM).2]
  exact ⟨r1, r2, vals_num l _ hall hh hl⟩
theorem part_part {l : List V} {m : Int} (e f : Bool) (hM : mayL l = 0) (h0 : 0 ≤ m) (h1 : m < totL l) : partL l (partL l m e) f = numL l (pickL f l (pickL e l (valsL l m))) := by
  obtain ⟨r1, r2, r3⟩ := part_good e hM h0 h1
  have hg : goodS l (partL l m e) = true := by simp [goodS, hM, r1, r2]
  have hh : ∀ s, goodS l s = true → partL l s f = numL l (pickL f l (valsL l s)) := fun s hs => by unfold partL; rw [hs]; rfl
  rw [hh _ hg, r3]
theorem part_idem {l : List V} {m : Int} (e : Bool) (hM : mayL l = 0) (h0 : 0 ≤ m) (h1 : m < totL l) : partL l (partL l m e) e = partL l m e := by
  rw [part_part e e hM h0 h1, pick_same]
  have hg : goodS l m = true := by simp [goodS, hM, h0, h1]
  unfold partL; rw [hg]; rfl
theorem part_swap {l : List V} {m : Int} (hM : mayL l = 0) (h0 : 0 ≤ m) (h1 : m < totL l) : partL l (partL l m true) false = partL l (partL l m false) true := by
  rw [part_part true false hM h0 h1, part_part false true hM h0 h1, pick_other]
theorem with_good {l : List V} {m i x : Int} (h : withOk l m i x = true) :
    0 ≤ withV l m i x ∧ withV l m i x < totL l ∧ valsL l (withV l m i x) = (valsL l m).set i.toNat x ∧ 0 ≤ i ∧ i < l.length ∧ goodS l m = true := by
  have hv : withV l m i x = numL l ((valsL l m).set i.toNat x) := by unfold withV; rw [h]; rfl
  simp only [withOk, Bool.and_eq_true] at h
  obtain ⟨hg, ha⟩ := h
  obtain ⟨hM, h0, h1⟩ := goodS_true hg
  have hall := mayL_all hM
  unfold hasAt at ha
  split at ha
  · cases ha
  · rename_i hi
    split at ha
    · rename_i v hlv
      have hh := has_set l _ i.toNat v x (has_vals l m hall) hlv ha
      have hl : ((valsL l m).set i.toNat x).length = l.length := by simp [valsL_length]
      obtain ⟨r1, r2⟩ := num_range l _ hall hh hl
      have hlt : i.toNat < l.length := (List.getElem?_eq_some_iff.1 hlv).1
      rw [hv, totL_prod (mayL_zero hM).2]
      exact ⟨r1, r2, vals_num l _ hall hh hl, by omega, by omega, hg⟩
    · cases ha
end Go.Proofs.Ytjfomoehedhodaa
