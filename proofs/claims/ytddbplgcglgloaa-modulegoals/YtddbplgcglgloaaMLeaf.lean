/- The walks of package dom's functions of one variable. The walks of package dom's functions of one variable: Size, mayValues. The walk of dom.Total. The walks of dom.isReserved and dom.isName. -/
import Derived.Test.YtddbplgcglgloaaProg
import Derived.Test.YtddbplgcglgloaaVWords
import Derived.WalkKit
import Derived.WalkSpells
import Derived.WalkLawsBesides
namespace Go.Proofs.Ytddbplgcglgloaa.Dom
open Go.RowKit
set_option linter.unusedSimpArgs false

def letterB (c : Int) : Bool := decide (97 ≤ c ∧ c ≤ 122)
def digitB (c : Int) : Bool := decide (48 ≤ c ∧ c ≤ 57)

set_option maxHeartbeats 400000 in
theorem letter_any (c : Int) (w : World) (b : Bool) (hb : letterB c = b) : Calls Try.prog 54 #[.int .u8 c] w fun e w' => e = .returned (.bool b) ∧ w = w' := by
  subst hb
  by_cases h1 : 97 ≤ c <;> by_cases h2 : c ≤ 122
  all_goals
    have hr : letterB c = decide (97 ≤ c ∧ c ≤ 122) := rfl
    simp only [h1, h2, and_true, true_and, and_false, false_and, decide_true, decide_false] at hr
    rw [hr]
    clear hr
    go_enter Try.func54, Try.ntmps54
    go_wp2
    go_ret
    exact ⟨rfl, rfl⟩

set_option maxHeartbeats 400000 in
theorem digit_any (c : Int) (w : World) (b : Bool) (hb : digitB c = b) : Calls Try.prog 55 #[.int .u8 c] w fun e w' => e = .returned (.bool b) ∧ w = w' := by
  subst hb
  by_cases h1 : 48 ≤ c <;> by_cases h2 : c ≤ 57
  all_goals
    have hr : digitB c = decide (48 ≤ c ∧ c ≤ 57) := rfl
    simp only [h1, h2, and_true, true_and, and_false, false_and, decide_true, decide_false] at hr
    rw [hr]
    clear hr
    go_enter Try.func55, Try.ntmps55
    go_wp2
    go_ret
    exact ⟨rfl, rfl⟩

set_option maxHeartbeats 400000 in
theorem range_any (lo hi : Int) (w : World) (b : Bool) (hb : rangeB lo hi = b) : Calls Try.prog 57 #[.int .i64 lo, .int .i64 hi] w fun e w' => e = .returned (.bool b) ∧ w = w' := by
  subst hb
  by_cases h1 : -1000 ≤ lo <;> by_cases h2 : lo ≤ hi <;> by_cases h3 : hi ≤ 1000
  all_goals
    have hr : rangeB lo hi = decide (-1000 ≤ lo ∧ lo ≤ hi ∧ hi ≤ 1000) := rfl
    simp only [h1, h2, h3, and_true, true_and, and_false, false_and, decide_true, decide_false] at hr
    rw [hr]
    clear hr
    go_enter Try.func57, Try.ntmps57
    go_wp2
    go_ret
    exact ⟨rfl, rfl⟩

end Go.Proofs.Ytddbplgcglgloaa.Dom
namespace Go.Proofs.Ytddbplgcglgloaa.Dom
open Go.RowKit
set_option linter.unusedSimpArgs false
set_option linter.unusedVariables false


set_option maxHeartbeats 400000 in
theorem size_ex (nm : ByteArray) (env : Bool) (s lo hi : Int) (w : World) : Calls Try.prog 58 #[.agg #[.string nm, .bool env, .int .i64 s, .int .i64 lo, .int .i64 hi]] w fun e w' => e = .returned (.int .i64 (sizeOfV s lo hi)) ∧ w.alloc (.cells #[.string nm, .bool env, .int .i64 s, .int .i64 lo, .int .i64 hi] 42) = w' := by
  by_cases h1 : s = 1
  · have hv : sizeOfV s lo hi = 2 := by simp [sizeOfV, h1]
    rw [hv]; clear hv
    have hb : (s == 1) = true := by simp [h1]
    clear h1
    go_enter Try.func58, Try.ntmps58
    go_wp2
    go_ret
    exact ⟨rfl, rfl⟩
  · have hb : (s == 1) = false := by simp [h1]
    by_cases h2 : s = 2
    · have hb2 : (s == 2) = true := by simp [h2]
      cases hr : rangeB lo hi
      · have hv : sizeOfV s lo hi = 0 := by simp [sizeOfV, h1, hr]
        rw [hv]; clear hv h1 h2
        have Hr := hide hr; clear hr
        go_enter Try.func58, Try.ntmps58
        go_wp2_with (go_at_call 57; refine (range_any _ _ _ _ Hr.out).mono ?_; rintro e w' ⟨rfl, rfl⟩)
        go_ret
        exact ⟨rfl, rfl⟩
      · have hv : sizeOfV s lo hi = hi - lo + 1 := by simp [sizeOfV, h1, h2, hr]
        rw [hv]; clear hv h1 h2
        obtain ⟨b1, b2, b3⟩ := range_true hr
        have Hr := hide hr; clear hr
        go_enter Try.func58, Try.ntmps58
        go_wp2_with (go_at_call 57; refine (range_any _ _ _ _ Hr.out).mono ?_; rintro e w' ⟨rfl, rfl⟩)
        go_ret
        exact ⟨rfl, rfl⟩
    · have hb2 : (s == 2) = false := by simp [h2]
      have hv : sizeOfV s lo hi = 0 := by simp [sizeOfV, h1, h2]
      rw [hv]; clear hv h1 h2
      go_enter Try.func58, Try.ntmps58
      go_wp2_with fail
      go_ret
      exact ⟨rfl, rfl⟩

theorem size_any (nm : ByteArray) (env : Bool) (s lo hi : Int) (w : World) : Calls Try.prog 58 #[.agg #[.string nm, .bool env, .int .i64 s, .int .i64 lo, .int .i64 hi]] w fun e w' => e = .returned (.int .i64 (sizeOfV s lo hi)) ∧ Below w.heap.size w w' :=
  (size_ex nm env s lo hi w).mono fun e w' ⟨he, hw⟩ => ⟨he, by rw [← hw]; exact (Below.refl _ _).alloc (Nat.le_refl _) _⟩

set_option maxHeartbeats 400000 in
theorem mayv_any (nm : ByteArray) (env : Bool) (s lo hi : Int) (w : World) : Calls Try.prog 38 #[.agg #[.string nm, .bool env, .int .i64 s, .int .i64 lo, .int .i64 hi]] w fun e w' => e = .returned (.int .i64 (mayOfV s lo hi)) ∧ Below w.heap.size w w' := by
  by_cases h1 : s = 1
  · have hb : (s == 1) = true := by simp [h1]
    by_cases h2 : lo = 0 <;> by_cases h3 : hi = 0
    all_goals
      have hv : mayOfV s lo hi = if lo = 0 ∧ hi = 0 then 0 else 6 := by simp [mayOfV, h1]
      simp only [h2, h3, and_true, true_and, and_false, false_and, if_true, if_false] at hv
      first | rw [hv] | (subst h2; subst h3; rw [hv]) | (subst h2; rw [hv]) | (subst h3; rw [hv])
      clear hv h1
      go_enter Try.func38, Try.ntmps38
      go_wp2
      go_ret
      exact ⟨rfl, (Below.refl _ _).alloc (Nat.le_refl _) _⟩
  · have hb : (s == 1) = false := by simp [h1]
    by_cases h2 : s = 2
    · have hb2 : (s == 2) = true := by simp [h2]
      cases hr : rangeB lo hi
      all_goals
        have hv : mayOfV s lo hi = if rangeB lo hi = true then 0 else 6 := by simp [mayOfV, h1, h2]
        rw [hr] at hv
        simp only [Bool.false_eq_true, if_true, if_false] at hv
        rw [hv]; clear hv h1 h2
        have Hr := hide hr; clear hr
        go_enter Try.func38, Try.ntmps38
        go_wp2_with (go_at_call 57; refine (range_any _ _ _ _ Hr.out).mono ?_; rintro e w' ⟨rfl, rfl⟩)
        go_ret
        exact ⟨rfl, (Below.refl _ _).alloc (Nat.le_refl _) _⟩
    · have hb2 : (s == 2) = false := by simp [h2]
      have hv : mayOfV s lo hi = 4 := by simp [mayOfV, h1, h2]
      rw [hv]; clear hv h1 h2
      go_enter Try.func38, Try.ntmps38
      go_wp2_with fail
      go_ret
      exact ⟨rfl, (Below.refl _ _).alloc (Nat.le_refl _) _⟩

end Go.Proofs.Ytddbplgcglgloaa.Dom
namespace Go.Proofs.Ytddbplgcglgloaa.Dom
open Go.RowKit
set_option linter.unusedSimpArgs false
set_option linter.unusedVariables false

theorem totGo_bad {p : Int} {v : V} {l : List V} {k : Nat} (h : l[k]? = some v) (hm : ¬ v.may = 0) : totGo p (l.drop k) = 0 := by
  rw [drop_at h, totGo, if_pos hm]
theorem totGo_over {p : Int} {v : V} {l : List V} {k : Nat} (h : l[k]? = some v) (hm : v.may = 0) (ho : 512 < p * v.size) : totGo p (l.drop k) = 0 := by
  rw [drop_at h, totGo, if_neg (by simp [hm]), if_pos ho]
theorem totGo_on {p : Int} {v : V} {l : List V} {k : Nat} (h : l[k]? = some v) (hm : v.may = 0) (ho : ¬ 512 < p * v.size) : totGo p (l.drop k) = totGo (p * v.size) (l.drop (k + 1)) := by
  rw [drop_at h, totGo, if_neg (by simp [hm]), if_neg ho]
theorem totGo_end {p : Int} {l : List V} {k : Nat} (h : l.length ≤ k) : totGo p (l.drop k) = p := by
  rw [List.drop_of_length_le h, totGo]

set_option maxHeartbeats 400000 in
theorem total_any (A : Option Addr) (n c B : Nat) (l : List V) (w : World) (hm : n ≤ maxLen) (hB : B ≤ w.heap.size) (hv : RV w B A n l) : Calls Try.prog 39 #[.slice A n c] w fun e w' => e = .returned (.int .i64 (totL l)) ∧ Below w.heap.size w w' := by
  have Hn := hide hv.1
  unfold maxLen at hm
  by_cases h6 : 6 < n
  · have ht : totL l = 0 := by unfold totL; rw [if_pos (by rw [hv.1]; exact h6)]
    rw [ht]; clear ht hv
    have h6' : decide ((6 : Int) < (n : Int)) = true := by simp; omega
    go_enter Try.func39, Try.ntmps39
    go_wp2_with fail
    go_ret
    exact ⟨rfl, Below.refl _ _⟩
  · have ht : totL l = totGo 1 l := by unfold totL; rw [if_neg (by rw [hv.1]; exact h6)]
    rw [ht]; clear ht
    have h6' : decide ((6 : Int) < (n : Int)) = false := by simp; omega
    have Hv := hide hv; clear hv
    go_enter Try.func39, Try.ntmps39
    go_wp2_with fail
    go_loopw [3, 11] (fun t i wr => ∃ (k : Nat) (p : Int), k ≤ n ∧ i = .int .i64 k ∧ t = .int .i64 p ∧ 1 ≤ p ∧ p ≤ 512 ∧ Hid (totGo p (l.drop k) = totGo 1 l) ∧ Below w.heap.size w wr) (fun _ i _ => n - (intOf i).toNat)
    case atStart => exact ⟨0, 1, Nat.zero_le _, rfl, rfl, by omega, by omega, hide rfl, Below.refl _ _⟩
    case round =>
      obtain ⟨k, p, hk, rfl, rfl, hp1, hp2, HT, hb⟩ := hrel
      by_cases hlt : k < n
      · have hlt' : ((k : Int) < (n : Int)) := by omega
        obtain ⟨b, off, v, rfl, hbB, hlk, c0, c1, c2, c3, c4⟩ := (Hv.out.below (hb.mono hB)).at_ hlt
        have Hlk := hide hlk; clear hlk
        have hsz := hb.size
        go_wp2_with fail
        refine (mayv_any _ _ _ _ _ _).mono ?_
        rintro e w1 ⟨rfl, hb1⟩
        have hbw1 := below_box hb (Nat.le_refl _) hb1
        obtain ⟨d0, d1, d2, d3, d4⟩ := (box_new wr v 42).below hb1 (by simp)
        clear c0 c1 c2 c3 c4
        by_cases hmay : mayOfV v.srt v.lo v.hi = 0
        · have hmb : (mayOfV v.srt v.lo v.hi != 0) = false := by simp [hmay]
          have Hmay := hide hmay
          have sz1 := size_pos hmay
          have sz2 := (size_bd v.srt v.lo v.hi).2
          clear hmay
          go_wp2_with fail
          refine (size_any _ _ _ _ _ _).mono ?_
          rintro e w2 ⟨rfl, hb2⟩
          have hbw2 := hbw1.trans (hb2.mono hbw1.size)
          generalize hs : sizeOfV v.srt v.lo v.hi = s at *
          have Hs : Hid (v.size = s) := hide hs
          clear hs d0 d1 d2 d3 d4
          have hps : 1 ≤ p * s ∧ p * s ≤ 512 * 2001 := by
            constructor
            · have := Int.mul_le_mul hp1 sz1 (by omega) (by omega); omega
            · exact Int.mul_le_mul hp2 sz2 (by omega) (by omega)
          obtain ⟨q1, q2⟩ := hps
          by_cases ho : 512 < p * s
          · have hfin := totGo_over Hlk.out Hmay.out (p := p) (by rw [Hs.out]; exact ho)
            have Hfin := hide (HT.out.symm.trans hfin); clear hfin
            go_wp2_with fail
            go_ret
            exact ⟨ret_int Hfin.out.symm, hbw2⟩
          · have hon := totGo_on Hlk.out Hmay.out (p := p) (by rw [Hs.out]; exact ho)
            have Hon := hide (hon.symm.trans HT.out); clear hon
            go_wp2_with fail
            go_roundw
            case rel => exact ⟨k + 1, p * s, by omega, by go_num, rfl, by omega, by omega, by rw [← Hs.out]; exact Hon, hbw2⟩
            case measure => simp [intOf]; omega
        · have hmb : (mayOfV v.srt v.lo v.hi != 0) = true := by simp [hmay]
          have hfin := totGo_bad Hlk.out (p := p) hmay
          have Hfin := hide (HT.out.symm.trans hfin); clear hfin hmay
          go_wp2_with fail
          go_ret
          exact ⟨ret_int Hfin.out.symm, hbw1⟩
      · have hfin := totGo_end (p := p) (l := l) (k := k) (by rw [Hn.out]; omega)
        have Hfin := hide (HT.out.symm.trans hfin); clear hfin
        have hlt' : ¬ ((k : Int) < (n : Int)) := by omega
        go_wp2_with fail
        go_ret
        exact ⟨ret_int Hfin.out.symm, hb⟩
end Go.Proofs.Ytddbplgcglgloaa.Dom
namespace Go.Proofs.Ytddbplgcglgloaa.Dom
open Go.RowKit
set_option linter.unusedSimpArgs false
set_option linter.unusedVariables false
def resB (b : List UInt8) : Bool := (b == [98, 111, 111, 108]) || (b == [105, 110, 116]) || (b == [101, 110, 118]) || (b == [115, 121, 115]) || (b == [105, 110, 105, 116]) || (b == [119, 104, 101, 110]) || (b == [97, 115, 115, 117, 109, 101]) ||
  (b == [101, 110, 115, 117, 114, 101]) || (b == [112, 114, 105, 111]) || (b == [97, 110, 121]) || (b == [116, 114, 117, 101]) || (b == [102, 97, 108, 115, 101]) || (b == [105, 102]) || (b == [116, 104, 101, 110]) || (b == [101, 108, 115, 101]) ||
  (b == [110, 111, 116]) || (b == [97, 110, 100]) || (b == [111, 114])
def okB (c : UInt8) : Bool := letterB c.toNat || digitB c.toNat || (c == 95)
def nameB (s : ByteArray) : Bool := decide (1 ≤ s.size ∧ s.size ≤ 16) && letterB ((s.data.toList.getD 0 0).toNat : Int) && s.data.toList.all okB && !resB s.toList

set_option maxHeartbeats 1000000 in
theorem res_any (s : ByteArray) (w : World) (b : Bool) (hb : resB s.toList = b) : Calls Try.prog 56 #[.string s] w fun e w' => e = .returned (.bool b) ∧ w = w' := by
  have Hb := hide hb; clear hb
  go_enter Try.func56, Try.ntmps56
  go_wp2
  all_goals first
    | (exfalso; simp_all; done)
    | (go_ret; refine ⟨?_, rfl⟩; rw [← Hb.out]; simp [resB, *]; done)

theorem name_no1 {s : ByteArray} (h : s.size < 1) : nameB s = false := by simp [nameB]; omega
theorem name_no2 {s : ByteArray} (h : 16 < s.size) : nameB s = false := by simp [nameB]; omega
theorem at0 {s : ByteArray} (h : 0 < s.size) : s.data.toList.getD 0 0 = s[0] := by
  have : 0 < s.data.toList.length := by simpa using h
  rw [List.getD_eq_getElem?_getD, List.getElem?_eq_getElem this]; rfl
theorem name_no3 {s : ByteArray} (h : 0 < s.size) (hl : letterB (s[0].toNat : Int) = false) : nameB s = false := by simp only [nameB, at0 h, hl]; simp
theorem name_no4 {s : ByteArray} {k : Nat} (h : k < s.size) (hl : okB s[k] = false) : nameB s = false := by
  have : s.data.toList.all okB = false := by
    rw [List.all_eq_false]
    refine ⟨s[k], ?_, by simp [hl]⟩
    have hk : k < s.data.toList.length := by simpa using h
    have : s[k] = s.data.toList[k] := rfl
    rw [this]; exact List.getElem_mem hk
  simp [nameB, this]
theorem name_yes {s : ByteArray} (h1 : 1 ≤ s.size) (h2 : s.size ≤ 16) (hl : letterB (s[0].toNat : Int) = true) (ha : (s.data.toList.take s.size).all okB = true) : nameB s = !resB s.toList := by
  rw [List.take_of_length_le (by simp)] at ha
  have hd : decide (1 ≤ s.size ∧ s.size ≤ 16) = true := by simp [h1, h2]
  rw [nameB, at0 h1, hl, ha, hd]; simp
theorem all_snoc {s : ByteArray} {k : Nat} (h : k < s.size) (ha : (s.data.toList.take k).all okB = true) (ho : okB s[k] = true) : (s.data.toList.take (k + 1)).all okB = true := by
  rw [List.take_succ_eq_append_getElem (by simpa using h), List.all_append, ha]
  have : s.data.toList[k]'(by simpa using h) = s[k] := rfl
  simp [this, ho]
theorem okB_false {c : UInt8} (h1 : letterB (c.toNat : Int) = false) (h2 : digitB (c.toNat : Int) = false) (h3 : ((c.toNat : Int) != 95) = true) : okB c = false := by
  have : (c == 95) = false := by
    rw [beq_eq_false_iff_ne]; rintro rfl; simp at h3
  simp [okB, h1, h2, this]
theorem okB_95 {c : UInt8} (h3 : ((c.toNat : Int) != 95) = false) : okB c = true := by
  have h : c.toNat = 95 := by
    have := (bne_eq_false_iff_eq.1 h3); omega
  have : c = 95 := UInt8.toNat_inj.1 h
  simp [okB, this]

set_option maxHeartbeats 1000000 in
theorem name_any (s : ByteArray) (w : World) (hm : s.size ≤ maxLen) : Calls Try.prog 37 #[.string s] w fun e w' => e = .returned (.bool (nameB s)) ∧ w = w' := by
  unfold maxLen at hm
  by_cases h1 : s.size < 1
  · rw [name_no1 h1]
    have h1' : decide ((s.size : Int) < 1) = true := by simp; omega
    go_enter Try.func37, Try.ntmps37
    go_wp2_with fail
    go_ret
    exact ⟨rfl, rfl⟩
  · have h1' : decide ((s.size : Int) < 1) = false := by simp; omega
    by_cases h2 : 16 < s.size
    · rw [name_no2 h2]
      have h2' : decide ((16 : Int) < (s.size : Int)) = true := by simp; omega
      go_enter Try.func37, Try.ntmps37
      go_wp2_with fail
      go_ret
      exact ⟨rfl, rfl⟩
    · have h2' : decide ((16 : Int) < (s.size : Int)) = false := by simp; omega
      have h0 : 0 < s.size := by omega
      cases hl : letterB (s[0].toNat : Int)
      · rw [name_no3 h0 hl]
        have Hl := hide hl; clear hl
        go_enter Try.func37, Try.ntmps37
        go_wp2_with (go_at_call 54; refine (letter_any _ _ _ Hl.out).mono ?_; rintro e w' ⟨rfl, rfl⟩)
        go_ret
        exact ⟨rfl, rfl⟩
      · have Hl := hide hl; clear hl
        go_enter Try.func37, Try.ntmps37
        go_wp2_with (go_at_call 54; refine (letter_any _ _ _ Hl.out).mono ?_; rintro e w' ⟨rfl, rfl⟩)
        go_loop [20] (fun i => ∃ k : Nat, k ≤ s.size ∧ i = .int .i64 k ∧ Hid ((s.data.toList.take k).all okB = true)) (fun i => s.size - (intOf i).toNat)
        case atStart => exact ⟨0, Nat.zero_le _, rfl, hide (by simp)⟩
        case round =>
          obtain ⟨k, hk, rfl, HA⟩ := hrel
          by_cases hlt : k < s.size
          · have hlt' : (k : Int) < (s.size : Int) := by omega
            cases hL : letterB (s[k].toNat : Int)
            · have HL := hide hL; clear hL
              go_wp2_with fail
              refine (letter_any _ _ _ HL.out).mono ?_
              rintro e w' ⟨rfl, rfl⟩
              cases hD : digitB (s[k].toNat : Int)
              · have HD := hide hD; clear hD
                cases h95 : ((s[k].toNat : Int) != 95)
                · have Hok := hide (all_snoc hlt HA.out (okB_95 h95))
                  go_wp2_with (go_at_call 55; refine (digit_any _ _ _ HD.out).mono ?_; rintro e w' ⟨rfl, rfl⟩)
                  go_round
                  case rel => exact ⟨k + 1, by omega, by go_num, Hok⟩
                  case measure => simp [intOf]; omega
                · have Hno := hide (name_no4 hlt (okB_false HL.out HD.out h95))
                  go_wp2_with (go_at_call 55; refine (digit_any _ _ _ HD.out).mono ?_; rintro e w' ⟨rfl, rfl⟩)
                  go_ret
                  exact ⟨ret_bool Hno.out.symm, rfl⟩
              · have Hok := hide (all_snoc hlt HA.out (by simp [okB, hD]))
                have HD := hide hD; clear hD
                go_wp2_with (go_at_call 55; refine (digit_any _ _ _ HD.out).mono ?_; rintro e w' ⟨rfl, rfl⟩)
                go_round
                case rel => exact ⟨k + 1, by omega, by go_num, Hok⟩
                case measure => simp [intOf]; omega
            · have Hok := hide (all_snoc hlt HA.out (by simp [okB, hL]))
              have HL := hide hL; clear hL
              go_wp2_with (go_at_call 54; refine (letter_any _ _ _ HL.out).mono ?_; rintro e w' ⟨rfl, rfl⟩)
              go_round
              case rel => exact ⟨k + 1, by omega, by go_num, Hok⟩
              case measure => simp [intOf]; omega
          · have hlt' : ¬ (k : Int) < (s.size : Int) := by omega
            obtain rfl : k = s.size := by omega
            have Hn := hide (name_yes (by omega) (by omega) Hl.out HA.out)
            cases hr : resB s.toList
            all_goals
              have Hr := hide hr
              clear hr
              go_wp2_with (go_at_call 56; refine (res_any _ _ _ Hr.out).mono ?_; rintro e w' ⟨rfl, rfl⟩)
              go_ret
              exact ⟨by rw [Hn.out, Hr.out]; rfl, rfl⟩
end Go.Proofs.Ytddbplgcglgloaa.Dom
