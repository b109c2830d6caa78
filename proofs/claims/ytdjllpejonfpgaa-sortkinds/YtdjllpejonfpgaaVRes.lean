/- The walks of dom.isReserved and dom.isName. -/
import Derived.Test.YtdjllpejonfpgaaVLeafB
namespace Go.Proofs.Ytdjllpejonfpgaa.Dom
open Go.RowKit
set_option linter.unusedSimpArgs false
set_option linter.unusedVariables false
def resB (b : List UInt8) : Bool := (b == [98, 111, 111, 108]) || (b == [105, 110, 116]) || (b == [101, 110, 118]) || (b == [115, 121, 115]) || (b == [105, 110, 105, 116]) || (b == [119, 104, 101, 110]) || (b == [97, 115, 115, 117, 109, 101]) ||
  (b == [101, 110, 115, 117, 114, 101]) || (b == [112, 114, 105, 111]) || (b == [97, 110, 121]) || (b == [116, 114, 117, 101]) || (b == [102, 97, 108, 115, 101]) || (b == [105, 102]) || (b == [116, 104, 101, 110]) || (b == [101, 108, 115, 101]) ||
  (b == [110, 111, 116]) || (b == [97, 110, 100]) || (b == [111, 114])
def okB (c : UInt8) : Bool := letterB c.toNat || digitB c.toNat || (c == 95)
def nameB (s : ByteArray) : Bool := decide (1 ≤ s.size ∧ s.size ≤ 16) && letterB ((s.data.toList.getD 0 0).toNat : Int) && s.data.toList.all okB && !resB s.toList

set_option maxHeartbeats 1000000 in
theorem res_any (s : ByteArray) (w : World) (b : Bool) (hb : resB s.toList = b) : Calls Try.prog 44 #[.string s] w fun e w' => e = .returned (.bool b) ∧ w = w' := by
  have Hb := hide hb; clear hb
  go_enter Try.func44, Try.ntmps44
  go_wp2
  all_goals first
    | (exfalso; simp_all; done)
    | (go_ret; refine ⟨?_, rfl⟩; rw [← Hb.out]; simp [resB, *]; done)

theorem name_no1 {s : ByteArray} (h : s.size < 1) : nameB s = false := by simp [nameB]; omega
theorem name_no2 {s : ByteArray} (h : 16 < s.size) : nameB s = false := by simp [nameB]; omega
theorem at0 {s : ByteArray} (h : 0 < s.size) : s.data.toList.getD 0 0 = s[0] := by
  have : 0 < s.data.toList.length := by simpa using h
  rw [List.getD_eq_getElem?_getD, List.getElem?_eq_getElem this]; rfl
theorem name_no3 {s : ByteArray} (h : 0 < s.size) (hl : letterB (s[0].toNat : Int) = false) : nameB s = false := by simp only [nameB, at0 h, hl]; simp
theorem name_no4 {s : ByteArray} {k : Nat} (h : k < s.size) (hl : okB s[k] = false) : nameB s = false := by
  have : s.data.toList.all okB = false := by
    rw [List.all_eq_false]
    refine ⟨s[k], ?_, by simp [hl]⟩
    have hk : k < s.data.toList.length := by simpa using h
    have : s[k] = s.data.toList[k] := rfl
    rw [this]; exact List.getElem_mem hk
  simp [nameB, this]
theorem name_yes {s : ByteArray} (h1 : 1 ≤ s.size) (h2 : s.size ≤ 16) (hl : letterB (s[0].toNat : Int) = true) (ha : (s.data.toList.take s.size).all okB = true) : nameB s = !resB s.toList := by
  rw [List.take_of_length_le (by simp)] at ha
  have hd : decide (1 ≤ s.size ∧ s.size ≤ 16) = true := by simp [h1, h2]
  rw [nameB, at0 h1, hl, ha, hd]; simp
theorem all_snoc {s : ByteArray} {k : Nat} (h : k < s.size) (ha : (s.data.toList.take k).all okB = true) (ho : okB s[k] = true) : (s.data.toList.take (k + 1)).all okB = true := by
  rw [List.take_succ_eq_append_getElem (by simpa using h), List.all_append, ha]
  have : s.data.toList[k]'(by simpa using h) = s[k] := rfl
  simp [this, ho]
theorem okB_false {c : UInt8} (h1 : letterB (c.toNat : Int) = false) (h2 : digitB (c.toNat : Int) = false) (h3 : ((c.toNat : Int) != 95) = true) : okB c = false := by
  have : (c == 95) = false := by
    rw [beq_eq_false_iff_ne]; rintro rfl; simp at h3
  simp [okB, h1, h2, this]
theorem okB_95 {c : UInt8} (h3 : ((c.toNat : Int) != 95) = false) : okB c = true := by
  have h : c.toNat = 95 := by
    have := (bne_eq_false_iff_eq.1 h3); omega
  have : c = 95 := UInt8.toNat_inj.1 h
  simp [okB, this]

set_option maxHeartbeats 1000000 in
theorem name_any (s : ByteArray) (w : World) (hm : s.size ≤ maxLen) : Calls Try.prog 33 #[.string s] w fun e w' => e = .returned (.bool (nameB s)) ∧ w = w' := by
  unfold maxLen at hm
  by_cases h1 : s.size < 1
  · rw [name_no1 h1]
    have h1' : decide ((s.size : Int) < 1) = true := by simp; omega
    go_enter Try.func33, Try.ntmps33
    go_wp2_with fail
    go_ret
    exact ⟨rfl, rfl⟩
  · have h1' : decide ((s.size : Int) < 1) = false := by simp; omega
    by_cases h2 : 16 < s.size
    · rw [name_no2 h2]
      have h2' : decide ((16 : Int) < (s.size : Int)) = true := by simp; omega
      go_enter Try.func33, Try.ntmps33
      go_wp2_with fail
      go_ret
      exact ⟨rfl, rfl⟩
    · have h2' : decide ((16 : Int) < (s.size : Int)) = false := by simp; omega
      have h0 : 0 < s.size := by omega
      cases hl : letterB (s[0].toNat : Int)
      · rw [name_no3 h0 hl]
        have Hl := hide hl; clear hl
        go_enter Try.func33, Try.ntmps33
        go_wp2_with (go_at_call 42; refine (letter_any _ _ _ Hl.out).mono ?_; rintro e w' ⟨rfl, rfl⟩)
        go_ret
        exact ⟨rfl, rfl⟩
      · have Hl := hide hl; clear hl
        go_enter Try.func33, Try.ntmps33
        go_wp2_with (go_at_call 42; refine (letter_any _ _ _ Hl.out).mono ?_; rintro e w' ⟨rfl, rfl⟩)
        go_loop [20] (fun i => ∃ k : Nat, k ≤ s.size ∧ i = .int .i64 k ∧ Hid ((s.data.toList.take k).all okB = true)) (fun i => s.size - (intOf i).toNat)
        case atStart => exact ⟨0, Nat.zero_le _, rfl, hide (by simp)⟩
        case round =>
          obtain ⟨k, hk, rfl, HA⟩ := hrel
          by_cases hlt : k < s.size
          · have hlt' : (k : Int) < (s.size : Int) := by omega
            cases hL : letterB (s[k].toNat : Int)
            · have HL := hide hL; clear hL
              go_wp2_with fail
              refine (letter_any _ _ _ HL.out).mono ?_
              rintro e w' ⟨rfl, rfl⟩
              cases hD : digitB (s[k].toNat : Int)
              · have HD := hide hD; clear hD
                cases h95 : ((s[k].toNat : Int) != 95)
                · have Hok := hide (all_snoc hlt HA.out (okB_95 h95))
                  go_wp2_with (go_at_call 43; refine (digit_any _ _ _ HD.out).mono ?_; rintro e w' ⟨rfl, rfl⟩)
                  go_round
                  case rel => exact ⟨k + 1, by omega, by go_num, Hok⟩
                  case measure => simp [intOf]; omega
                · have Hno := hide (name_no4 hlt (okB_false HL.out HD.out h95))
                  go_wp2_with (go_at_call 43; refine (digit_any _ _ _ HD.out).mono ?_; rintro e w' ⟨rfl, rfl⟩)
                  go_ret
                  exact ⟨ret_bool Hno.out.symm, rfl⟩
              · have Hok := hide (all_snoc hlt HA.out (by simp [okB, hD]))
                have HD := hide hD; clear hD
                go_wp2_with (go_at_call 43; refine (digit_any _ _ _ HD.out).mono ?_; rintro e w' ⟨rfl, rfl⟩)
                go_round
                case rel => exact ⟨k + 1, by omega, by go_num, Hok⟩
                case measure => simp [intOf]; omega
            · have Hok := hide (all_snoc hlt HA.out (by simp [okB, hL]))
              have HL := hide hL; clear hL
              go_wp2_with (go_at_call 42; refine (letter_any _ _ _ HL.out).mono ?_; rintro e w' ⟨rfl, rfl⟩)
              go_round
              case rel => exact ⟨k + 1, by omega, by go_num, Hok⟩
              case measure => simp [intOf]; omega
          · have hlt' : ¬ (k : Int) < (s.size : Int) := by omega
            obtain rfl : k = s.size := by omega
            have Hn := hide (name_yes (by omega) (by omega) Hl.out HA.out)
            cases hr : resB s.toList
            all_goals
              have Hr := hide hr
              clear hr
              go_wp2_with (go_at_call 44; refine (res_any _ _ _ Hr.out).mono ?_; rintro e w' ⟨rfl, rfl⟩)
              go_ret
              exact ⟨by rw [Hn.out, Hr.out]; rfl, rfl⟩
end Go.Proofs.Ytdjllpejonfpgaa.Dom
