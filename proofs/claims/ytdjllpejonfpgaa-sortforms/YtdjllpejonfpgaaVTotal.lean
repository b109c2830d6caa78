/- The walk of dom.Total. -/
import Derived.Test.YtdjllpejonfpgaaVLeafB
namespace Go.Proofs.Ytdjllpejonfpgaa.Dom
open Go.RowKit
set_option linter.unusedSimpArgs false
set_option linter.unusedVariables false

theorem totGo_bad {p : Int} {v : V} {l : List V} {k : Nat} (h : l[k]? = some v) (hm : ¬ v.may = 0) : totGo p (l.drop k) = 0 := by
  rw [drop_at h, totGo, if_pos hm]
theorem totGo_over {p : Int} {v : V} {l : List V} {k : Nat} (h : l[k]? = some v) (hm : v.may = 0) (ho : 512 < p * v.size) : totGo p (l.drop k) = 0 := by
  rw [drop_at h, totGo, if_neg (by simp [hm]), if_pos ho]
theorem totGo_on {p : Int} {v : V} {l : List V} {k : Nat} (h : l[k]? = some v) (hm : v.may = 0) (ho : ¬ 512 < p * v.size) : totGo p (l.drop k) = totGo (p * v.size) (l.drop (k + 1)) := by
  rw [drop_at h, totGo, if_neg (by simp [hm]), if_neg ho]
theorem totGo_end {p : Int} {l : List V} {k : Nat} (h : l.length ≤ k) : totGo p (l.drop k) = p := by
  rw [List.drop_of_length_le h, totGo]

set_option maxHeartbeats 400000 in
theorem total_any (A : Option Addr) (n c B : Nat) (l : List V) (w : World) (hm : n ≤ maxLen) (hB : B ≤ w.heap.size) (hv : RV w B A n l) : Calls Try.prog 35 #[.slice A n c] w fun e w' => e = .returned (.int .i64 (totL l)) ∧ Below w.heap.size w w' := by
  have Hn := hide hv.1
  unfold maxLen at hm
  by_cases h6 : 6 < n
  · have ht : totL l = 0 := by unfold totL; rw [if_pos (by rw [hv.1]; exact h6)]
    rw [ht]; clear ht hv
    have h6' : decide ((6 : Int) < (n : Int)) = true := by simp; omega
    go_enter Try.func35, Try.ntmps35
    go_wp2_with fail
    go_ret
    exact ⟨rfl, Below.refl _ _⟩
  · have ht : totL l = totGo 1 l := by unfold totL; rw [if_neg (by rw [hv.1]; exact h6)]
    rw [ht]; clear ht
    have h6' : decide ((6 : Int) < (n : Int)) = false := by simp; omega
    have Hv := hide hv; clear hv
    go_enter Try.func35, Try.ntmps35
    go_wp2_with fail
    go_loopw [3, 11] (fun t i wr => ∃ (k : Nat) (p : Int), k ≤ n ∧ i = .int .i64 k ∧ t = .int .i64 p ∧ 1 ≤ p ∧ p ≤ 512 ∧ Hid (totGo p (l.drop k) = totGo 1 l) ∧ Below w.heap.size w wr) (fun _ i _ => n - (intOf i).toNat)
    case atStart => exact ⟨0, 1, Nat.zero_le _, rfl, rfl, by omega, by omega, hide rfl, Below.refl _ _⟩
    case round =>
      obtain ⟨k, p, hk, rfl, rfl, hp1, hp2, HT, hb⟩ := hrel
      by_cases hlt : k < n
      · have hlt' : ((k : Int) < (n : Int)) := by omega
        obtain ⟨b, off, v, rfl, hbB, hlk, c0, c1, c2, c3, c4⟩ := (Hv.out.below (hb.mono hB)).at_ hlt
        have Hlk := hide hlk; clear hlk
        have hsz := hb.size
        go_wp2_with fail
        refine (mayv_any _ _ _ _ _ _).mono ?_
        rintro e w1 ⟨rfl, hb1⟩
        have hbw1 := below_box hb (Nat.le_refl _) hb1
        obtain ⟨d0, d1, d2, d3, d4⟩ := (box_new wr v 41).below hb1 (by simp)
        clear c0 c1 c2 c3 c4
        by_cases hmay : mayOfV v.srt v.lo v.hi = 0
        · have hmb : (mayOfV v.srt v.lo v.hi != 0) = false := by simp [hmay]
          have Hmay := hide hmay
          have sz1 := size_pos hmay
          have sz2 := (size_bd v.srt v.lo v.hi).2
          clear hmay
          go_wp2_with fail
          refine (size_any _ _ _ _ _ _).mono ?_
          rintro e w2 ⟨rfl, hb2⟩
          have hbw2 := hbw1.trans (hb2.mono hbw1.size)
          generalize hs : sizeOfV v.srt v.lo v.hi = s at *
          have Hs : Hid (v.size = s) := hide hs
          clear hs d0 d1 d2 d3 d4
          have hps : 1 ≤ p * s ∧ p * s ≤ 512 * 2001 := by
            constructor
            · have := Int.mul_le_mul hp1 sz1 (by omega) (by omega); omega
            · exact Int.mul_le_mul hp2 sz2 (by omega) (by omega)
          obtain ⟨q1, q2⟩ := hps
          by_cases ho : 512 < p * s
          · have hfin := totGo_over Hlk.out Hmay.out (p := p) (by rw [Hs.out]; exact ho)
            have Hfin := hide (HT.out.symm.trans hfin); clear hfin
            go_wp2_with fail
            go_ret
            exact ⟨ret_int Hfin.out.symm, hbw2⟩
          · have hon := totGo_on Hlk.out Hmay.out (p := p) (by rw [Hs.out]; exact ho)
            have Hon := hide (hon.symm.trans HT.out); clear hon
            go_wp2_with fail
            go_roundw
            case rel => exact ⟨k + 1, p * s, by omega, by go_num, rfl, by omega, by omega, by rw [← Hs.out]; exact Hon, hbw2⟩
            case measure => simp [intOf]; omega
        · have hmb : (mayOfV v.srt v.lo v.hi != 0) = true := by simp [hmay]
          have hfin := totGo_bad Hlk.out (p := p) hmay
          have Hfin := hide (HT.out.symm.trans hfin); clear hfin hmay
          go_wp2_with fail
          go_ret
          exact ⟨ret_int Hfin.out.symm, hbw1⟩
      · have hfin := totGo_end (p := p) (l := l) (k := k) (by rw [Hn.out]; omega)
        have Hfin := hide (HT.out.symm.trans hfin); clear hfin
        have hlt' : ¬ ((k : Int) < (n : Int)) := by omega
        go_wp2_with fail
        go_ret
        exact ⟨ret_int Hfin.out.symm, hb⟩
end Go.Proofs.Ytdjllpejonfpgaa.Dom
