/- The walks of the reference's Size, Find, product. -/
import Derived.Test.YtdjllpejonfpgaaVHeavy
namespace Go.Proofs.Ytdjllpejonfpgaa.Dom
open Go.RowKit Go.WideMaps Go.Maps
set_option linter.unusedSimpArgs false
set_option linter.unusedVariables false

set_option maxHeartbeats 400000 in
theorem rsize_ex (nm : ByteArray) (env : Bool) (s lo hi : Int) (w : World) : Calls Try.prog 28 #[.agg #[.string nm, .bool env, .int .i64 s, .int .i64 lo, .int .i64 hi]] w fun e w' => e = .returned (.int .i64 (sizeOfV s lo hi)) ∧ w.alloc (.cells #[.string nm, .bool env, .int .i64 s, .int .i64 lo, .int .i64 hi] 41) = w' := by
  by_cases h1 : s = 1
  · have hv : sizeOfV s lo hi = 2 := by simp [sizeOfV, h1]
    rw [hv]; clear hv
    have hb : (s == 1) = true := by simp [h1]
    clear h1
    go_enter Try.func28, Try.ntmps28
    go_wp2
    go_ret
    exact ⟨rfl, rfl⟩
  · have hb : (s == 1) = false := by simp [h1]
    by_cases h2 : s = 2
    · have hb2 : (s == 2) = true := by simp [h2]
      cases hr : rangeB lo hi
      · have hv : sizeOfV s lo hi = 0 := by simp [sizeOfV, h1, hr]
        rw [hv]; clear hv h1 h2
        have hno := range_false hr
        clear hr
        by_cases k1 : -1000 ≤ lo <;> by_cases k2 : lo ≤ hi <;> by_cases k3 : hi ≤ 1000
        all_goals first
          | (exfalso; omega)
          | (clear hno
             go_enter Try.func28, Try.ntmps28
             go_wp2
             go_ret
             exact ⟨rfl, rfl⟩)
      · have hv : sizeOfV s lo hi = hi - lo + 1 := by simp [sizeOfV, h1, h2, hr]
        rw [hv]; clear hv h1 h2
        obtain ⟨b1, b2, b3⟩ := range_true hr
        clear hr
        go_enter Try.func28, Try.ntmps28
        go_wp2
        go_ret
        exact ⟨rfl, rfl⟩
    · have hb2 : (s == 2) = false := by simp [h2]
      have hv : sizeOfV s lo hi = 0 := by simp [sizeOfV, h1, h2]
      rw [hv]; clear hv h1 h2
      go_enter Try.func28, Try.ntmps28
      go_wp2_with fail
      go_ret
      exact ⟨rfl, rfl⟩
theorem rsize_any (nm : ByteArray) (env : Bool) (s lo hi : Int) (w : World) : Calls Try.prog 28 #[.agg #[.string nm, .bool env, .int .i64 s, .int .i64 lo, .int .i64 hi]] w fun e w' => e = .returned (.int .i64 (sizeOfV s lo hi)) ∧ Below w.heap.size w w' :=
  (rsize_ex nm env s lo hi w).mono fun e w' ⟨he, hw⟩ => ⟨he, by rw [← hw]; exact (Below.refl _ _).alloc (Nat.le_refl _) _⟩

set_option maxHeartbeats 400000 in
theorem rfind_any (A : Option Addr) (n c B : Nat) (l : List V) (s : ByteArray) (w : World) (hm : n ≤ maxLen) (hB : B ≤ w.heap.size) (hv : RV w B A n l) : Calls Try.prog 27 #[.slice A n c, .string s] w fun e w' => e = .returned (.int .i64 (findGo s.toList 0 l)) ∧ Below w.heap.size w w' := by
  have Hn := hide hv.1
  unfold maxLen at hm
  have Hv := hide hv; clear hv
  go_enter Try.func27, Try.ntmps27
  go_wp2_with fail
  go_loopw [9] (fun i wr => ∃ (k : Nat), k ≤ n ∧ i = .int .i64 k ∧ Hid (findGo s.toList k (l.drop k) = findGo s.toList 0 l) ∧ Below w.heap.size w wr) (fun i _ => n - (intOf i).toNat)
  case atStart => exact ⟨0, Nat.zero_le _, rfl, hide rfl, Below.refl _ _⟩
  case round =>
    obtain ⟨k, hk, rfl, HT, hb⟩ := hrel
    by_cases hlt : k < n
    · have hlt' : ((k : Int) < (n : Int)) := by omega
      obtain ⟨b, off, v, rfl, hbB, hlk, c0, c1, c2, c3, c4⟩ := (Hv.out.below (hb.mono hB)).at_ hlt
      have Hst : Hid ((if v.nm.toList == s.toList then (k : Int) else findGo s.toList (k + 1) (l.drop (k + 1))) = findGo s.toList 0 l) := hide (by rw [← HT.out, drop_at hlk, findGo])
      clear hlk
      have hsz := hb.size
      cases he : v.nm.toList == s.toList
      · have Hon : Hid (findGo s.toList (k + 1) (l.drop (k + 1)) = findGo s.toList 0 l) := hide (by rw [← Hst.out, he]; rfl)
        go_wp2_with fail
        go_roundw
        case rel => exact ⟨k + 1, by omega, by go_num, Hon, hb.alloc hsz _⟩
        case measure => simp [intOf]; omega
      · have Hfin : Hid (findGo s.toList 0 l = (k : Int)) := hide (by rw [← Hst.out, he]; rfl)
        go_wp2_with fail
        go_ret
        exact ⟨ret_int Hfin.out.symm, hb.alloc hsz _⟩
    · have hlt' : ¬ ((k : Int) < (n : Int)) := by omega
      have Hfin : Hid (findGo s.toList 0 l = -1) := hide (by rw [← HT.out, List.drop_of_length_le (by rw [Hn.out]; omega), findGo])
      go_wp2_with fail
      go_ret
      exact ⟨ret_int Hfin.out.symm, hb⟩

def pmGo (t : Int) : List V → Int
  | [] => t
  | v :: r => pmGo (if 513 < t * v.size then 513 else t * v.size) r

set_option maxHeartbeats 400000 in
theorem rprod_any (A : Option Addr) (n c B : Nat) (l : List V) (w : World) (hm : n ≤ maxLen) (hB : B ≤ w.heap.size) (hv : RV w B A n l) : Calls Try.prog 29 #[.slice A n c] w fun e w' => e = .returned (.int .i64 (pmGo 1 l)) ∧ Below w.heap.size w w' := by
  have Hn := hide hv.1
  unfold maxLen at hm
  have Hv := hide hv; clear hv
  go_enter Try.func29, Try.ntmps29
  go_wp2_with fail
  go_loopw [3, 8] (fun t i wr => ∃ (k : Nat) (p : Int), k ≤ n ∧ i = .int .i64 k ∧ t = .int .i64 p ∧ 0 ≤ p ∧ p ≤ 513 ∧ Hid (pmGo p (l.drop k) = pmGo 1 l) ∧ Below w.heap.size w wr) (fun _ i _ => n - (intOf i).toNat)
  case atStart => exact ⟨0, 1, Nat.zero_le _, rfl, rfl, by omega, by omega, hide rfl, Below.refl _ _⟩
  case round =>
    obtain ⟨k, p, hk, rfl, rfl, hp1, hp2, HT, hb⟩ := hrel
    by_cases hlt : k < n
    · have hlt' : ((k : Int) < (n : Int)) := by omega
      obtain ⟨b, off, v, rfl, hbB, hlk, c0, c1, c2, c3, c4⟩ := (Hv.out.below (hb.mono hB)).at_ hlt
      have Hst : Hid (pmGo (if 513 < p * v.size then 513 else p * v.size) (l.drop (k + 1)) = pmGo 1 l) := hide (by rw [← HT.out, drop_at hlk, pmGo])
      clear hlk
      have hsz := hb.size
      obtain ⟨sz1, sz2⟩ := size_bd v.srt v.lo v.hi
      go_wp2_with fail
      refine (rsize_any _ _ _ _ _ _).mono ?_
      rintro e w1 ⟨rfl, hb1⟩
      have hbw1 := below_box hb (Nat.le_refl _) hb1
      clear c0 c1 c2 c3 c4 hb1
      generalize hs : sizeOfV v.srt v.lo v.hi = z at *
      have Hs : Hid (v.size = z) := hide hs
      clear hs
      rw [Hs.out] at Hst
      have q1 : 0 ≤ p * z := Int.mul_nonneg hp1 sz1
      have q2 : p * z ≤ 513 * 2001 := Int.mul_le_mul hp2 sz2 (by omega) (by omega)
      have qm1 : 0 ≤ (if 513 < p * z then 513 else p * z) := by split <;> omega
      have qm2 : (if 513 < p * z then 513 else p * z) ≤ 513 := by split <;> omega
      go_wp2_with fail
      go_roundw
      case rel => exact ⟨k + 1, _, by omega, by go_num, rfl, qm1, qm2, Hst, hbw1⟩
      case measure => simp [intOf]; omega
    · have Hfin : Hid (pmGo 1 l = p) := hide (by rw [← HT.out, List.drop_of_length_le (by rw [Hn.out]; omega), pmGo])
      have hlt' : ¬ ((k : Int) < (n : Int)) := by omega
      go_wp2_with fail
      go_ret
      exact ⟨ret_int Hfin.out.symm, hb⟩
end Go.Proofs.Ytdjllpejonfpgaa.Dom
