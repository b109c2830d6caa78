/- The walk of the reference's Total. -/
import Derived.Test.YtkjclofkfmkbdaaVRefC
namespace Go.Proofs.Ytkjclofkfmkbdaa.Dom
open Go.RowKit Go.WideMaps Go.Maps
set_option linter.unusedSimpArgs false
set_option linter.unusedVariables false

theorem totGo_none : ∀ (l : List V) (t : Int), (∃ v ∈ l, v.may ≠ 0) → totGo t l = 0
  | [], _, h => by obtain ⟨v, hv, _⟩ := h; simp at hv
  | u :: r, t, h => by
    rw [totGo]
    split
    · rfl
    · rename_i h1
      split
      · rfl
      · obtain ⟨v, hv, hm⟩ := h
        rcases List.mem_cons.1 hv with rfl | hv
        · exact absurd hm h1
        · exact totGo_none r _ ⟨v, hv, hm⟩
theorem totL_none {l : List V} (h : ∃ v ∈ l, v.may ≠ 0) : totL l = 0 := by
  unfold totL; split
  · rfl
  · exact totGo_none l 1 h
theorem mayGo_why : ∀ (l : List V) (seen : List (List UInt8)), mayGo seen l ≠ 0 → mayGo seen l ≠ 3 → ∃ v ∈ l, v.may ≠ 0
  | [], _, h, _ => absurd rfl h
  | u :: r, seen, h, h3 => by
    rw [mayGo] at h h3
    by_cases c1 : nameB u.nm = false ∨ u.key ∈ seen
    · rw [if_pos c1] at h3; exact absurd rfl h3
    · rw [if_neg c1] at h h3
      by_cases c2 : u.may ≠ 0
      · exact ⟨u, by simp, c2⟩
      · rw [if_neg c2] at h h3
        obtain ⟨v, hv, hm⟩ := mayGo_why r _ h h3
        exact ⟨v, by simp [hv], hm⟩
theorem may_tot {l : List V} (h : mayL l ≠ 0) (h3 : mayL l ≠ 3) : totL l = 0 := by
  unfold mayL at h h3
  by_cases c : mayGo [] l ≠ 0
  · rw [if_pos c] at h h3; exact totL_none (mayGo_why l [] h h3)
  · rw [if_neg c] at h
    by_cases c2 : totL l = 0
    · exact c2
    · rw [if_neg c2] at h; exact absurd rfl h
theorem pm_tot {l : List V} (h : 6 < l.length ∨ 512 < pmGo 1 l) : totL l = 0 := by
  by_cases hall : ∀ v ∈ l, v.may = 0
  · exact (tot_zero hall).2 h
  · refine totL_none (Classical.byContradiction fun hn => hall fun v hv => ?_)
    exact Classical.byContradiction fun hm => hn ⟨v, hv, hm⟩

set_option maxRecDepth 100000 in
set_option maxHeartbeats 1000000 in
theorem rtotal_any (A : Option Addr) (n c B : Nat) (l : List V) (w : World) (hm : n ≤ maxLen) (hnc : n ≤ c) (hc : c ≤ maxLen) (hB : B ≤ w.heap.size) (hv : RV w B A n l) (hnm : ∀ v ∈ l, v.nm.size ≤ maxLen) : Calls Try.prog 28 #[.slice A n c] w fun e w' => e = .returned (.int .i64 (totL l)) ∧ Below w.heap.size w w' := by
  have Hm := hide hm
  have Hc := hide hc
  have Hn := hide hv.1
  have Hnm := hide hnm; clear hnm
  unfold maxLen at hm
  have Hv := hide hv; clear hv
  clear hc
  by_cases he : mayL l ≠ 0 ∧ mayL l ≠ 3
  · have Hr := hide (may_tot he.1 he.2)
    have e1 : (mayL l != 0) = true := by simp [he.1]
    have e2 : (mayL l != 3) = true := by simp [he.2]
    clear he
    go_enter Try.func28, Try.ntmps28
    go_wp2_with fail
    refine (rmay_any A n c B l _ Hm.out hnc Hc.out hB Hv.out Hnm.out).mono ?_
    rintro e w1 ⟨rfl, hb1⟩
    go_wp2_with fail
    go_ret
    exact ⟨ret_int Hr.out.symm, hb1⟩
  · have e1 : ((mayL l != 0) && (mayL l != 3)) = false := by
      rcases Classical.em (mayL l = 0) with h | h
      · simp [h]
      · have : mayL l = 3 := Classical.byContradiction fun h3 => he ⟨h, h3⟩
        simp [this]
    have e2 : (mayL l != 0) = false ∨ ((mayL l != 0) = true ∧ (mayL l != 3) = false) := by
      rw [Bool.and_eq_false_iff] at e1
      rcases hx : (mayL l != 0) with _ | _
      · exact .inl rfl
      · rcases e1 with h | h
        · rw [hx] at h; cases h
        · exact .inr ⟨rfl, h⟩
    clear he e1
    by_cases h6 : 6 < n
    · have h6b : decide ((6 : Int) < (n : Int)) = true := by simp; omega
      have Hr : Hid (totL l = 0) := hide (pm_tot (.inl (by rw [Hn.out]; exact h6)))
      rcases e2 with e2 | ⟨e2, e3⟩
      all_goals
        go_enter Try.func28, Try.ntmps28
        go_wp2_with fail
        refine (rmay_any A n c B l _ Hm.out hnc Hc.out hB Hv.out Hnm.out).mono ?_
        rintro e w1 ⟨rfl, hb1⟩
        go_wp2_with fail
        go_ret
        exact ⟨ret_int Hr.out.symm, hb1⟩
    · have h6b : decide ((6 : Int) < (n : Int)) = false := by simp; omega
      have Hl6 : Hid (¬ 6 < l.length) := hide (by rw [Hn.out]; exact h6)
      by_cases h5 : 512 < pmGo 1 l
      · have h5b : decide (512 < pmGo 1 l) = true := by simp [h5]
        have Hr : Hid (totL l = 0) := hide (pm_tot (.inr h5))
        rcases e2 with e2 | ⟨e2, e3⟩
        all_goals
          go_enter Try.func28, Try.ntmps28
          go_wp2_with fail
          refine (rmay_any A n c B l _ Hm.out hnc Hc.out hB Hv.out Hnm.out).mono ?_
          rintro e w1 ⟨rfl, hb1⟩
          have hz1 := hb1.size
          go_wp2_with fail
          refine (rprod_any A n c B l _ Hm.out (by omega) (Hv.out.below (hb1.mono hB))).mono ?_
          rintro e w2 ⟨rfl, hb2⟩
          have hbw2 := hb1.trans (hb2.mono hz1)
          go_wp2_with fail
          go_ret
          exact ⟨ret_int Hr.out.symm, hbw2⟩
      · have h5b : decide (512 < pmGo 1 l) = false := by simp; omega
        have H5 := hide h5
        rcases e2 with e2 | ⟨e2, e3⟩
        all_goals
          go_enter Try.func28, Try.ntmps28
          go_wp2_with fail
          refine (rmay_any A n c B l _ Hm.out hnc Hc.out hB Hv.out Hnm.out).mono ?_
          rintro e w1 ⟨rfl, hb1⟩
          have hz1 := hb1.size
          go_wp2_with fail
          refine (rprod_any A n c B l _ Hm.out (by omega) (Hv.out.below (hb1.mono hB))).mono ?_
          rintro e w2 ⟨rfl, hb2⟩
          have hbw2 := hb1.trans (hb2.mono hz1)
          clear hb1 hb2
          go_wp2_with fail
          go_loopw [24] (fun i wr => ∃ (k : Nat), k ≤ n ∧ i = .int .i64 k ∧ Hid (∀ j u, j < k → l[j]? = some u → u.may = 0) ∧ Below w.heap.size w wr) (fun i _ => n - (intOf i).toNat)
          case atStart => exact ⟨0, Nat.zero_le _, rfl, hide (fun j u hj => absurd hj (by omega)), hbw2⟩
          case round =>
            obtain ⟨k, hk, rfl, HA, hb⟩ := hrel
            by_cases hlt : k < n
            · have hlt' : ((k : Int) < (n : Int)) := by omega
              obtain ⟨b, off, v, rfl, hbB, hlk, c0, c1, c2, c3, c4⟩ := (Hv.out.below (hb.mono hB)).at_ hlt
              have Hlk := hide hlk; clear hlk
              have hsz := hb.size
              go_wp2_with fail
              refine (rsize_any v.nm v.env v.srt v.lo v.hi _).mono ?_
              rintro e w4 ⟨rfl, hb4⟩
              have hbw4 := below_box hb (Nat.le_refl _) hb4
              obtain ⟨d0, d1, d2, d3, d4⟩ := (box_new wr v 52).below hb4 (by simp)
              clear c0 c1 c2 c3 c4 hb4
              by_cases hmay : v.may = 0
              · have sz := size_pos hmay
                have szb : (sizeOfV v.srt v.lo v.hi == 0) = false := by rw [beq_eq_false_iff_ne]; omega
                have HA2 : Hid (∀ j u, j < k + 1 → l[j]? = some u → u.may = 0) := hide (fun j u hj hu => by
                  rcases Nat.lt_or_ge j k with h | h
                  · exact HA.out j u h hu
                  · obtain rfl : j = k := by omega
                    have := Hlk.out; rw [hu] at this; injection this with this; rw [this]; exact hmay)
                by_cases s1 : v.srt = 1
                · have s1c : (v.srt == 1) = true := by simp [s1]
                  have hz : v.lo = 0 ∧ v.hi = 0 := by
                    simp [V.may, mayOfV, s1] at hmay; exact hmay
                  have z1b : (v.lo != 0) = false := by simp [hz.1]
                  have z2b : (v.hi != 0) = false := by simp [hz.2]
                  clear s1 hz hmay
                  go_wp2_with fail
                  go_roundw
                  case rel => exact ⟨k + 1, by omega, by go_num, HA2, hbw4⟩
                  case measure => simp [intOf]; omega
                · have s1c : (v.srt == 1) = false := by simp [s1]
                  clear s1 hmay
                  go_wp2_with fail
                  go_roundw
                  case rel => exact ⟨k + 1, by omega, by go_num, HA2, hbw4⟩
                  case measure => simp [intOf]; omega
              · have Hr : Hid (totL l = 0) := hide (totL_none ⟨v, List.mem_of_getElem? Hlk.out, hmay⟩)
                by_cases sz0 : sizeOfV v.srt v.lo v.hi = 0
                · have szb : (sizeOfV v.srt v.lo v.hi == 0) = true := by simp [sz0]
                  clear hmay sz0
                  go_wp2_with fail
                  go_ret
                  exact ⟨ret_int Hr.out.symm, hbw4⟩
                · have szb : (sizeOfV v.srt v.lo v.hi == 0) = false := by simp [sz0]
                  have s1 : v.srt = 1 := Classical.byContradiction fun h1 => by
                    by_cases s2 : v.srt = 2
                    · cases hr : rangeB v.lo v.hi
                      · exact sz0 (by simp [sizeOfV, h1, hr])
                      · exact hmay (by simp [V.may, mayOfV, h1, s2, hr])
                    · exact sz0 (by simp [sizeOfV, h1, s2])
                  have s1c : (v.srt == 1) = true := by simp [s1]
                  by_cases z1 : v.lo = 0
                  · have z1b : (v.lo != 0) = false := by simp [z1]
                    have z2 : ¬ v.hi = 0 := fun z2 => hmay (by simp [V.may, mayOfV, s1, z1, z2])
                    have z2b : (v.hi != 0) = true := by simp [z2]
                    clear s1 z1 z2 hmay sz0
                    go_wp2_with fail
                    go_ret
                    exact ⟨ret_int Hr.out.symm, hbw4⟩
                  · have z1b : (v.lo != 0) = true := by simp [z1]
                    clear s1 z1 hmay sz0
                    go_wp2_with fail
                    go_ret
                    exact ⟨ret_int Hr.out.symm, hbw4⟩
            · have hlt' : ¬ ((k : Int) < (n : Int)) := by omega
              have Hr : Hid (totL l = pmGo 1 l) := hide (tot_pm (fun v hv => by
                obtain ⟨j, hj, e⟩ := List.mem_iff_getElem.1 hv
                exact HA.out j v (by rw [Hn.out] at hj; omega) (by rw [List.getElem?_eq_getElem hj, e])) (by have := Hl6.out; omega) (by have := H5.out; omega))
              have hsz := hb.size
              go_wp2_with fail
              refine (rprod_any A n c B l _ Hm.out (by omega) (Hv.out.below (hb.mono hB))).mono ?_
              rintro e w4 ⟨rfl, hb4⟩
              have hbw4 := hb.trans (hb4.mono hsz)
              go_wp2_with fail
              go_ret
              exact ⟨ret_int Hr.out.symm, hbw4⟩
end Go.Proofs.Ytkjclofkfmkbdaa.Dom
