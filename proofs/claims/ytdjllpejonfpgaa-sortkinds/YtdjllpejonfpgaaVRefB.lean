/- The walk of the reference's Name. -/
import Derived.Test.YtdjllpejonfpgaaVRefA
namespace Go.Proofs.Ytdjllpejonfpgaa.Dom
open Go.RowKit Go.WideMaps Go.Maps
set_option linter.unusedSimpArgs false
set_option linter.unusedVariables false

def wordsA : Array Value := #[.string ⟨#[98, 111, 111, 108]⟩, .string ⟨#[105, 110, 116]⟩, .string ⟨#[101, 110, 118]⟩, .string ⟨#[115, 121, 115]⟩, .string ⟨#[105, 110, 105, 116]⟩, .string ⟨#[119, 104, 101, 110]⟩, .string ⟨#[97, 115, 115, 117, 109, 101]⟩,
  .string ⟨#[101, 110, 115, 117, 114, 101]⟩, .string ⟨#[112, 114, 105, 111]⟩, .string ⟨#[97, 110, 121]⟩, .string ⟨#[116, 114, 117, 101]⟩, .string ⟨#[102, 97, 108, 115, 101]⟩, .string ⟨#[105, 102]⟩, .string ⟨#[116, 104, 101, 110]⟩, .string ⟨#[101, 108, 115, 101]⟩,
  .string ⟨#[110, 111, 116]⟩, .string ⟨#[97, 110, 100]⟩, .string ⟨#[111, 114]⟩]
def wordsL : List (List UInt8) := [[98, 111, 111, 108], [105, 110, 116], [101, 110, 118], [115, 121, 115], [105, 110, 105, 116], [119, 104, 101, 110], [97, 115, 115, 117, 109, 101], [101, 110, 115, 117, 114, 101], [112, 114, 105, 111], [97, 110, 121], [116, 114, 117, 101], [102, 97, 108, 115, 101], [105, 102], [116, 104, 101, 110], [101, 108, 115, 101], [110, 111, 116], [97, 110, 100], [111, 114]]
def wordAt (k : Nat) : ByteArray := ⟨(wordsL.getD k []).toArray⟩
theorem words_idx (k : Nat) (hk : k < 18) (w : World) : (Instr.index 58 (.agg wordsA) (.int .i64 (k : Int))).run Try.prog w = .ok (.string (wordAt k)) w := by
  have h : k = 0 ∨ k = 1 ∨ k = 2 ∨ k = 3 ∨ k = 4 ∨ k = 5 ∨ k = 6 ∨ k = 7 ∨ k = 8 ∨ k = 9 ∨ k = 10 ∨ k = 11 ∨ k = 12 ∨ k = 13 ∨ k = 14 ∨ k = 15 ∨ k = 16 ∨ k = 17 := by omega
  rcases h with rfl | rfl | rfl | rfl | rfl | rfl | rfl | rfl | rfl | rfl | rfl | rfl | rfl | rfl | rfl | rfl | rfl | rfl
  all_goals exact (show Sem.run Try.prog _ w = _ by kernel_rfl)
theorem res_words (b : List UInt8) : resB b = wordsL.contains b := by
  simp only [resB, wordsL, List.contains_cons, List.contains_nil, Bool.or_false, Bool.or_assoc]
theorem wordAt_list (k : Nat) : (wordAt k).toList = wordsL.getD k [] := by rw [ByteArray.toList_eq]; rfl
theorem word_hit {b : List UInt8} {k : Nat} (hk : k < 18) (h : (b == (wordAt k).toList) = true) : resB b = true := by
  rw [res_words, List.contains_iff_mem]
  rw [beq_iff_eq, wordAt_list] at h
  have hl : k < wordsL.length := hk
  rw [h, List.getD_eq_getElem?_getD, List.getElem?_eq_getElem hl]
  exact List.getElem_mem hl
theorem word_none {b : List UInt8} (h : ∀ j, j < 18 → (b == (wordAt j).toList) = false) : resB b = false := by
  rw [res_words]
  cases hc : wordsL.contains b
  · rfl
  · rw [List.contains_iff_mem] at hc
    obtain ⟨j, hj, e⟩ := List.mem_iff_getElem.1 hc
    have := h j hj
    rw [wordAt_list, List.getD_eq_getElem?_getD, List.getElem?_eq_getElem hj] at this
    simp [e] at this
theorem ok_yes {c : UInt8} (h : (97 ≤ (c.toNat : Int) ∧ (c.toNat : Int) ≤ 122) ∨ (48 ≤ (c.toNat : Int) ∧ (c.toNat : Int) ≤ 57) ∨ (c.toNat : Int) = 95) : okB c = true := by
  rcases h with h | h | h
  · simp [okB, letterB, h]
  · simp [okB, digitB, h]
  · have : c = 95 := UInt8.toNat_inj.1 (by show c.toNat = 95; omega)
    simp [okB, this]
theorem ok_no {c : UInt8} (h : ¬ (97 ≤ (c.toNat : Int) ∧ (c.toNat : Int) ≤ 122) ∧ ¬ (48 ≤ (c.toNat : Int) ∧ (c.toNat : Int) ≤ 57) ∧ (c.toNat : Int) ≠ 95) : okB c = false := by
  obtain ⟨h1, h2, h3⟩ := h
  exact okB_false (by simp [letterB, h1]) (by simp [digitB, h2]) (by simp [h3])
theorem letter_of {c : UInt8} {b : Bool} (h : letterB (c.toNat : Int) = b) : b = decide (97 ≤ (c.toNat : Int) ∧ (c.toNat : Int) ≤ 122) := by rw [← h]; rfl

set_option maxRecDepth 100000 in
set_option maxHeartbeats 1000000 in
theorem rname_any (s : ByteArray) (w : World) (hm : s.size ≤ maxLen) : Calls Try.prog 26 #[.string s] w fun e w' => e = .returned (.bool (nameB s)) ∧ w = w' := by
  unfold maxLen at hm
  by_cases h1 : s.size < 1
  · rw [name_no1 h1]
    have h1' : decide ((s.size : Int) < 1) = true := by simp; omega
    go_enter Try.func26, Try.ntmps26
    go_wp2_with fail
    go_ret
    exact ⟨rfl, rfl⟩
  · have h1' : decide ((s.size : Int) < 1) = false := by simp; omega
    by_cases h2 : 16 < s.size
    · rw [name_no2 h2]
      have h2' : decide ((16 : Int) < (s.size : Int)) = true := by simp; omega
      go_enter Try.func26, Try.ntmps26
      go_wp2_with fail
      go_ret
      exact ⟨rfl, rfl⟩
    · have h2' : decide ((16 : Int) < (s.size : Int)) = false := by simp; omega
      have h0 : 0 < s.size := by omega
      by_cases k1 : (s[0].toNat : Int) < 97
      · have k1b : decide ((s[0].toNat : Int) < 97) = true := by simp [k1]
        rw [name_no3 h0 (by simp [letterB]; omega)]
        go_enter Try.func26, Try.ntmps26
        go_wp2_with fail
        go_ret
        exact ⟨rfl, rfl⟩
      · have k1b : decide ((s[0].toNat : Int) < 97) = false := by simp; omega
        by_cases k2 : (122 : Int) < (s[0].toNat : Int)
        · have k2b : decide ((122 : Int) < (s[0].toNat : Int)) = true := by simp [k2]
          rw [name_no3 h0 (by simp [letterB]; omega)]
          go_enter Try.func26, Try.ntmps26
          go_wp2_with fail
          go_ret
          exact ⟨rfl, rfl⟩
        · have k2b : decide ((122 : Int) < (s[0].toNat : Int)) = false := by simp; omega
          have Hl : Hid (letterB (s[0].toNat : Int) = true) := hide (by simp [letterB]; omega)
          go_enter Try.func26, Try.ntmps26
          go_wp2_with fail
          go_loop [27] (fun i => ∃ k : Nat, k ≤ s.size ∧ i = .int .i64 k ∧ Hid ((s.data.toList.take k).all okB = true)) (fun i => s.size - (intOf i).toNat)
          case atStart => exact ⟨0, Nat.zero_le _, rfl, hide (by simp)⟩
          case round =>
            obtain ⟨k, hk, rfl, HA⟩ := hrel
            by_cases hlt : k < s.size
            · have hlt' : (k : Int) < (s.size : Int) := by omega
              by_cases hcond : (97 ≤ (s[k].toNat : Int) ∧ (s[k].toNat : Int) ≤ 122) ∨ (48 ≤ (s[k].toNat : Int) ∧ (s[k].toNat : Int) ≤ 57) ∨ (s[k].toNat : Int) = 95
              · have Hok : Hid ((s.data.toList.take (k + 1)).all okB = true) := hide (all_snoc hlt HA.out (ok_yes hcond))
                by_cases a1 : (s[k].toNat : Int) < 97 <;> by_cases a2 : (122 : Int) < (s[k].toNat : Int) <;> by_cases a3 : (s[k].toNat : Int) < 48 <;> by_cases a4 : (57 : Int) < (s[k].toNat : Int) <;> cases a5 : ((s[k].toNat : Int) != 95)
                all_goals first
                  | (exfalso; simp at a5; omega)
                  | (clear hcond
                     go_wp2_with fail
                     go_round
                     case rel => exact ⟨k + 1, by omega, by go_num, Hok⟩
                     case measure => simp [intOf]; omega)
              · have Hno : Hid (nameB s = false) := hide (name_no4 hlt (ok_no (by omega)))
                by_cases a1 : (s[k].toNat : Int) < 97 <;> by_cases a2 : (122 : Int) < (s[k].toNat : Int) <;> by_cases a3 : (s[k].toNat : Int) < 48 <;> by_cases a4 : (57 : Int) < (s[k].toNat : Int) <;> cases a5 : ((s[k].toNat : Int) != 95)
                all_goals first
                  | (exfalso; simp at a5; omega)
                  | (clear hcond
                     go_wp2_with fail
                     go_ret
                     exact ⟨ret_bool Hno.out.symm, rfl⟩)
            · have hlt' : ¬ (k : Int) < (s.size : Int) := by omega
              obtain rfl : k = s.size := by omega
              have Hn := hide (name_yes (by omega) (by omega) Hl.out HA.out)
              go_wp2_with fail
              go_loop [53] (fun i => ∃ k : Nat, k ≤ 18 ∧ i = .int .i64 k ∧ Hid (∀ j, j < k → (s.toList == (wordAt j).toList) = false)) (fun i => 18 - (intOf i).toNat)
              case atStart => exact ⟨0, Nat.zero_le _, rfl, hide (fun j hj => absurd hj (by omega))⟩
              case round =>
                obtain ⟨k, hk2, rfl, HW⟩ := hrel
                by_cases hlt2 : k < 18
                · have hlt2' : (k : Int) < 18 := by omega
                  have hix := words_idx k hlt2
                  unfold wordsA at hix
                  cases he : s.toList == (wordAt k).toList
                  · have HW2 : Hid (∀ j, j < k + 1 → (s.toList == (wordAt j).toList) = false) := hide (fun j hj => by
                      rcases Nat.lt_or_ge j k with h | h
                      · exact HW.out j h
                      · obtain rfl : j = k := by omega
                        exact he)
                    generalize wordAt k = wk at *
                    go_wp2_with fail
                    go_round
                    case rel => exact ⟨k + 1, by omega, by go_num, HW2⟩
                    case measure => simp [intOf]; omega
                  · have Hfin : Hid (nameB s = false) := hide (by rw [Hn.out, word_hit hlt2 he]; rfl)
                    generalize wordAt k = wk at *
                    go_wp2_with fail
                    go_ret
                    exact ⟨ret_bool Hfin.out.symm, rfl⟩
                · have hlt2' : ¬ (k : Int) < 18 := by omega
                  have Hfin : Hid (nameB s = true) := hide (by rw [Hn.out, word_none (fun j hj => HW.out j (by omega))]; rfl)
                  go_wp2_with fail
                  go_ret
                  exact ⟨ret_bool Hfin.out.symm, rfl⟩
end Go.Proofs.Ytdjllpejonfpgaa.Dom
