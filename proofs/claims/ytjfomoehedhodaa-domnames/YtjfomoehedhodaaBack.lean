/- The walk of the statement DomBack. -/
import Derived.Test.YtjfomoehedhodaaHeavy
namespace Go.Proofs.Ytjfomoehedhodaa
open Go.RowKit Go.WideMaps Go.Maps
set_option linter.unusedSimpArgs false
set_option linter.unusedVariables false

theorem has_vals : ∀ (l : List V) (s : Int), (∀ v ∈ l, v.may = 0) → hasAll l (valsL l s) = true
  | [], _, _ => by simp [hasAll, valsL]
  | v :: r, s, h => by
    have h1 : 1 ≤ v.size := size_pos (h v (by simp))
    rw [valsL, hasAll, has_vals r _ (fun u hu => h u (by simp [hu])), Bool.and_true]
    unfold hasB
    have h2 := Int.emod_nonneg s (show v.size ≠ 0 by omega)
    have h3 := Int.emod_lt_of_pos s (show 0 < v.size by omega)
    have h4 : sizeOfV v.srt v.lo v.hi = v.size := rfl
    rw [h4]; simp; omega
theorem num_vals : ∀ (l : List V) (s : Int), (∀ v ∈ l, v.may = 0) → 0 ≤ s → s < prodV l → numL l (valsL l s) = s
  | [], s, _, h0, h1 => by simp [prodV] at h1; simp [numL, valsL]; omega
  | v :: r, s, h, h0, h1 => by
    have h2 : 1 ≤ v.size := size_pos (h v (by simp))
    rw [prodV] at h1
    have h3 : 0 ≤ s / v.size := Int.ediv_nonneg h0 (by omega)
    have h4 : s / v.size < prodV r := by
      rw [Int.ediv_lt_iff_lt_mul (by omega), Int.mul_comm]; exact h1
    rw [valsL, numL, num_vals r _ (fun u hu => h u (by simp [hu])) h3 h4]
    have := Int.mul_ediv_add_emod s v.size
    omega
theorem back_ok {l : List V} {s : Int} (h1 : mayL l = 0) : stateOk l (valsL l s) = true := by
  simp [stateOk, h1, valsL_length, has_vals l s (mayL_all h1)]
theorem back_st {l : List V} {s : Int} (h1 : mayL l = 0) (h0 : 0 ≤ s) (h2 : s < totL l) : stateV l (valsL l s) = s := by
  unfold stateV; rw [back_ok h1, if_pos rfl]
  exact num_vals l s (mayL_all h1) h0 (by rw [← totL_prod (mayL_zero h1).2]; exact h2)

theorem mod_bd (s t : Int) (h1 : 1 ≤ t) (h2 : t ≤ 512) : 0 ≤ wrap64 ((IntKind.u64.wrap s).tmod t) ∧ wrap64 ((IntKind.u64.wrap s).tmod t) < t := by
  have h0 : 0 ≤ IntKind.u64.wrap s := by rw [IntKind.wrap_u64]; omega
  rw [Int.tmod_eq_emod_of_nonneg h0]
  have h3 := Int.emod_nonneg (IntKind.u64.wrap s) (show t ≠ 0 by omega)
  have h4 := Int.emod_lt_of_pos (IntKind.u64.wrap s) (show 0 < t by omega)
  rw [wrap64_small _ (by omega) (by omega)]
  exact ⟨h3, h4⟩

set_option maxRecDepth 100000 in
set_option maxHeartbeats 1000000 in
theorem back_ok_any (A : Option Addr) (n c B : Nat) (l : List V) (s : Int) (w : World) (hm : n ≤ maxLen) (hB : B ≤ w.heap.size) (hv : RV w B A n l) (hnm : ∀ v ∈ l, v.nm.size ≤ maxLen) (hh : heavyGo 0 l = 0) (hM : mayL l = 0) :
    Calls Try.prog 4 #[.slice A n c, .int .i64 s] w fun e w' => e = .returned (.bool true) ∧ Below w.heap.size w w' := by
  have Hm := hide hm
  have ht := (mayL_zero hM).2
  have hn6 : n ≤ 6 := by have := totL_len ht; rw [hv.1] at this; exact this
  have Hn := hide hv.1
  have Hv := hide hv; clear hv
  have Hnm := hide hnm; clear hnm
  have Hh := hide hh; clear hh
  have HM := hide hM
  have Hall := hide (mayL_all hM)
  have HP := hide (totL_prod ht)
  have Ht := hide ht
  obtain ⟨tb0, tb1⟩ := totL_bd l
  have tb2 : 1 ≤ totL l := by have := Ht.out; omega
  clear hm hM ht
  go_enter Try.func4, Try.ntmps4
  go_wp2_with fail
  refine (heavy_any A n c B l _ Hm.out hB Hv.out Hnm.out).mono ?_
  rintro e w1 ⟨rfl, hb1⟩
  rw [Hh.out]
  have Hb1 := hide hb1
  have hz1 := hb1.size
  clear hb1
  go_wp2_with fail
  refine (may_any A n c B l _ Hm.out (by omega) (Hv.out.below (Hb1.out.mono hB)) Hnm.out).mono ?_
  rintro e w2 ⟨rfl, hb2⟩
  rw [HM.out]
  have hz2 := hb2.size
  have Hb2 := hide (Hb1.out.trans (hb2.mono hz1))
  clear hb2
  go_wp2_with fail
  refine (total_any A n c B l _ Hm.out (by omega) (Hv.out.below (Hb2.out.mono hB))).mono ?_
  rintro e w3 ⟨rfl, hb3⟩
  have hz3 := hb3.size
  have Hb3 := hide (Hb2.out.trans (hb3.mono (by omega)))
  clear hb3
  generalize htt : totL l = t at *
  have Htt := hide htt; clear htt
  go_wp2_with fail
  have hb3 := Hb3.out
  go_loopw [6, 32] (fun a i wr => ∃ (k : Nat) (wt : Int), k ≤ n ∧ i = .int .i64 k ∧ a = .int .i64 wt ∧ 1 ≤ wt ∧ Hid (wt * prodV (l.drop k) = t) ∧ Below w.heap.size w wr) (fun _ i _ => n - (intOf i).toNat)
  case atStart => exact ⟨0, 1, Nat.zero_le _, rfl, rfl, by omega, hide (by rw [HP.out]; simp), hb3⟩
  case round =>
    obtain ⟨k, wt, hk, rfl, rfl, hw1, HW, hb⟩ := hrel
    have hw2 := wt_bd k Hall.out hw1 HW.out tb1
    by_cases hlt : k < n
    · have hlt' : ((k : Int) < (n : Int)) := by omega
      obtain ⟨b, off, v, rfl, hbB, hlk, c0, c1, c2, c3, c4⟩ := (Hv.out.below (hb.mono hB)).at_ hlt
      have hmay := Hall.out v (List.mem_of_getElem? hlk)
      have sz1 := size_pos hmay
      have sz2 := (size_bd v.srt v.lo v.hi).2
      have Hst : Hid ((wt * v.size) * prodV (l.drop (k + 1)) = t) := hide (by rw [← HW.out, drop_at hlk, prodV, Int.mul_assoc])
      clear hlk hmay
      have hsz := hb.size
      go_wp2_with fail
      refine (size_any _ _ _ _ _ _).mono ?_
      rintro e w4 ⟨rfl, hb4⟩
      have hbw4 := below_box hb (Nat.le_refl _) hb4
      clear c0 c1 c2 c3 c4 hb4
      generalize hs : sizeOfV v.srt v.lo v.hi = z at *
      have Hs : Hid (v.size = z) := hide hs
      clear hs
      rw [Hs.out] at Hst
      have q1 : 1 ≤ wt * z := by have := Int.mul_le_mul hw1 sz1 (by omega) (by omega); omega
      have q2 : wt * z ≤ 512 * 2001 := Int.mul_le_mul hw2 sz2 (by omega) (by omega)
      go_wp2_with fail
      go_roundw
      case rel => exact ⟨k + 1, wt * z, by omega, by go_num, rfl, by omega, Hst, hbw4⟩
      case measure => simp [intOf]; omega
    · have hlt' : ¬ ((k : Int) < (n : Int)) := by omega
      have hwt : wt = t := by rw [← HW.out, List.drop_of_length_le (by rw [Hn.out]; omega), prodV]; simp
      subst hwt
      clear HW
      have Hb4 := hide hb
      have hz4 := hb.size
      have tb2b : decide (wt < 1) = false := by simp; omega
      have tb1b : decide (512 < wt) = false := by simp; omega
      have hneq : (wt != wt) = false := by simp
      go_wp2_with fail
      clear tb2b tb1b hneq
      refine (vals_bad A n c B l (-1) _ Hm.out (by omega) (Hv.out.below (Hb4.out.mono hB)) Hnm.out (.inr (.inl (by omega)))).mono ?_
      rintro e w5 ⟨rfl, hb5⟩
      have hz5 := hb5.size
      have Hb5 := hide (Hb4.out.trans (hb5.mono (by omega)))
      clear hb5
      go_wp2_with fail
      refine (vals_bad A n c B l wt _ Hm.out (by omega) (Hv.out.below (Hb5.out.mono hB)) Hnm.out (.inr (.inr (by rw [Htt.out]; omega)))).mono ?_
      rintro e w6 ⟨rfl, hb6⟩
      have hz6 := hb6.size
      have Hb6 := hide (Hb5.out.trans (hb6.mono (by omega)))
      clear hb6
      go_wp2_with fail
      obtain ⟨m0, m1⟩ := mod_bd s wt tb2 tb1
      generalize wrap64 ((IntKind.u64.wrap s).tmod wt) = m at *
      have Hs1 := hide (back_ok (s := m) HM.out)
      have Hs2 := hide (back_st (s := m) HM.out m0 (by rw [Htt.out]; exact m1))
      have Hva := hide (has_vals l m Hall.out)
      have Hlen := hide ((valsL_length l m).trans Hn.out)
      refine (vals_good A n c B l m _ (by omega) (Hv.out.below (Hb6.out.mono hB)) Hnm.out HM.out m0 (by rw [Htt.out]; exact m1)).mono ?_
      rintro e w7 ⟨g, rfl, hg, hrow, hb7⟩
      have hz7 := hb7.size
      have Hb7 := hide (Hb6.out.trans (hb7.mono (by omega)))
      have Hri := hide (row_ri hrow Hlen.out)
      have hglt := hrow.lt
      clear hb7 hrow
      go_wp2_with fail
      refine (state_any A n c w7.heap.size l _ n n (valsL l m) _ Hm.out Hm.out (Nat.le_refl _) ((Hv.out.below (Hb7.out.mono hB)).more (by omega)) Hri.out Hnm.out).mono ?_
      rintro e w8 ⟨rfl, hb8⟩
      rw [Hs1.out, Hs2.out]
      have hz8 := hb8.size
      have Hb8 := hide (Hb7.out.trans (hb8.mono (by omega)))
      have Hri8 := hide (Hri.out.below hb8)
      clear hb8 Hri
      go_wp2_with fail
      have hb8 := Hb8.out
      go_loopw [107] (fun i wr => ∃ (k : Nat), k ≤ n ∧ i = .int .i64 k ∧ Below w7.heap.size w8 wr ∧ Below w.heap.size w wr) (fun i _ => n - (intOf i).toNat)
      case atStart => exact ⟨0, Nat.zero_le _, rfl, Below.refl _ _, hb8⟩
      case round =>
        obtain ⟨j, hj, rfl, hbj, hbw⟩ := hrel
        by_cases hlt2 : j < n
        · have hlt2' : ((j : Int) < (n : Int)) := by omega
          obtain ⟨b, off, v, rfl, hbB, hlk, c0, c1, c2, c3, c4⟩ := (Hv.out.below (hbw.mono hB)).at_ hlt2
          obtain ⟨bi, offi, x, hA, hbi, hlx, cx⟩ := (Hri8.out.below hbj).at_ hlt2
          injection hA with hA
          injection hA with hA1 hA2
          subst hA1; subst hA2
          rw [Nat.zero_add] at cx
          have hmay := Hall.out v (List.mem_of_getElem? hlk)
          obtain ⟨x1, x2⟩ := has_bd (hasAll_at l _ j v x Hva.out hlk hlx)
          have sz1 := size_pos hmay
          have sz2 := (size_bd v.srt v.lo v.hi).2
          obtain ⟨lo1, lo2⟩ := may_lo hmay
          have x1b : decide (x < v.lo) = false := by simp; omega
          clear hlk hlx hmay
          have hsz := hbw.size
          go_wp2_with fail
          go_region_held3 (fun w' => w'.cell? ⟨b, off + j * 5, none⟩ = some (.string v.nm) ∧ w'.cell? ⟨b, off + j * 5 + 1, none⟩ = some (.bool v.env) ∧ w'.cell? ⟨b, off + j * 5 + 2, none⟩ = some (.int .i64 v.srt) ∧ w'.cell? ⟨b, off + j * 5 + 3, none⟩ = some (.int .i64 v.lo) ∧ w'.cell? ⟨b, off + j * 5 + 4, none⟩ = some (.int .i64 v.hi))
            (go_keep)
            (first | (go_at_call 22; refine (size_ex v.nm v.env v.srt v.lo v.hi _).mono ?_; rintro e w' ⟨rfl, rfl⟩))
          rw [show IntKind.i64.wrap (v.lo + sizeOfV v.srt v.lo v.hi) = v.lo + sizeOfV v.srt v.lo v.hi from IntWalk.i64_in _ (by omega)]
          have x2b : decide (v.lo + sizeOfV v.srt v.lo v.hi ≤ x) = false := by simp; omega
          have hbj2 : Below w7.heap.size w8 (wr.alloc (.cells #[.string v.nm, .bool v.env, .int .i64 v.srt, .int .i64 v.lo, .int .i64 v.hi] 36)).drew := (hbj.alloc (by have := hbj.size; omega) _).drew
          have hbw2 : Below w.heap.size w (wr.alloc (.cells #[.string v.nm, .bool v.env, .int .i64 v.srt, .int .i64 v.lo, .int .i64 v.hi] 36)).drew := (hbw.alloc hsz _).drew
          clear c0 c1 c2 c3 c4 cx
          go_wp2_with fail
          go_roundw
          case rel => exact ⟨j + 1, by omega, by go_num, hbj2, hbw2⟩
          case measure => simp [intOf]; omega
        · have hlt2' : ¬ ((j : Int) < (n : Int)) := by omega
          have hsz := hbw.size
          go_wp2_with fail
          refine (awake_any _).mono ?_
          rintro e w9 ⟨rfl, hb9⟩
          have hfin := hbw.trans (hb9.mono hsz)
          go_wp2_with fail
          go_ret
          exact ⟨rfl, hfin⟩

set_option maxRecDepth 100000 in
set_option maxHeartbeats 1000000 in
theorem back_any (A : Option Addr) (n c B : Nat) (l : List V) (s : Int) (w : World) (hm : n ≤ maxLen) (hB : B ≤ w.heap.size) (hv : RV w B A n l) (hnm : ∀ v ∈ l, v.nm.size ≤ maxLen) :
    Calls Try.prog 4 #[.slice A n c, .int .i64 s] w fun e w' => e = .returned (.bool true) ∧ Below w.heap.size w w' := by
  by_cases hh : heavyGo 0 l = 0
  · by_cases hM : mayL l = 0
    · exact back_ok_any A n c B l s w hm hB hv hnm hh hM
    · have hMb : (mayL l != 0) = true := by simp [hM]
      have Hm := hide hm
      have Hv := hide hv; clear hv
      have Hnm := hide hnm; clear hnm
      have Hh := hide hh
      clear hm hM hh
      go_enter Try.func4, Try.ntmps4
      go_wp2_with fail
      refine (heavy_any A n c B l _ Hm.out hB Hv.out Hnm.out).mono ?_
      rintro e w1 ⟨rfl, hb1⟩
      rw [Hh.out]
      have Hb1 := hide hb1
      have hz1 := hb1.size
      clear hb1
      go_wp2_with fail
      refine (may_any A n c B l _ Hm.out (by omega) (Hv.out.below (Hb1.out.mono hB)) Hnm.out).mono ?_
      rintro e w2 ⟨rfl, hb2⟩
      have hz2 := hb2.size
      have Hb2 := hide (Hb1.out.trans (hb2.mono hz1))
      clear hb2
      go_wp2_with fail
      refine (awake_any _).mono ?_
      rintro e w4 ⟨rfl, hb4⟩
      have Hb4 := hide (Hb2.out.trans (hb4.mono (by omega)))
      clear hb4
      go_wp2_with fail
      go_ret
      exact ⟨rfl, Hb4.out⟩
  · have hh2 : 0 < heavyGo 0 l := by have := heavy_nonneg l 0; omega
    have hhb : decide (0 < heavyGo 0 l) = true := by simp [hh2]
    have Hm := hide hm
    have Hv := hide hv; clear hv
    have Hnm := hide hnm; clear hnm
    clear hm hh
    go_enter Try.func4, Try.ntmps4
    go_wp2_with fail
    refine (heavy_any A n c B l _ Hm.out hB Hv.out Hnm.out).mono ?_
    rintro e w1 ⟨rfl, hb1⟩
    have Hb1 := hide hb1
    have hz1 := hb1.size
    clear hb1
    go_wp2_with fail
    refine (awake_any _).mono ?_
    rintro e w4 ⟨rfl, hb4⟩
    have Hb4 := hide (Hb1.out.trans (hb4.mono (by omega)))
    clear hb4
    go_wp2_with fail
    go_ret
    exact ⟨rfl, Hb4.out⟩
end Go.Proofs.Ytjfomoehedhodaa
