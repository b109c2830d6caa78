/- The walks of the program's Kids, isNumber, isValid, May. -/
import Derived.Test.YtdjllpejonfpgaaDCount
namespace Go.Proofs.Ytdjllpejonfpgaa.Ex
open Go.RowKit
set_option linter.unusedSimpArgs false
set_option linter.unusedVariables false

set_option maxHeartbeats 1000000 in
theorem kids_any (op : Int) (w : World) : Calls Try.prog 16 #[.int .i64 op] w fun e w' => e = .returned (.int .i64 (kidsOf op)) ∧ w = w' := by
  by_cases hr : 1 ≤ op ∧ op ≤ 15
  · have h : op = 1 ∨ op = 2 ∨ op = 3 ∨ op = 4 ∨ op = 5 ∨ op = 6 ∨ op = 7 ∨ op = 8 ∨ op = 9 ∨ op = 10 ∨ op = 11 ∨ op = 12 ∨ op = 13 ∨ op = 14 ∨ op = 15 := by omega
    clear hr
    rcases h with rfl | rfl | rfl | rfl | rfl | rfl | rfl | rfl | rfl | rfl | rfl | rfl | rfl | rfl | rfl
    all_goals
      go_enter Try.func16, Try.ntmps16
      go_wp2_with fail
      go_ret
      exact ⟨rfl, rfl⟩
  · have hk : kidsOf op = -1 := by
      unfold kidsOf
      rw [if_neg (by omega), if_neg (by omega), if_neg (by omega), if_neg (by omega)]
    have e1 : (op == 1) = false := by rw [beq_eq_false_iff_ne]; omega
    have e2 : (op == 2) = false := by rw [beq_eq_false_iff_ne]; omega
    have e3 : (op == 3) = false := by rw [beq_eq_false_iff_ne]; omega
    have e4 : (op == 4) = false := by rw [beq_eq_false_iff_ne]; omega
    have e5 : (op == 5) = false := by rw [beq_eq_false_iff_ne]; omega
    have e6 : (op == 6) = false := by rw [beq_eq_false_iff_ne]; omega
    have e7 : (op == 7) = false := by rw [beq_eq_false_iff_ne]; omega
    have e8 : (op == 8) = false := by rw [beq_eq_false_iff_ne]; omega
    have e9 : (op == 9) = false := by rw [beq_eq_false_iff_ne]; omega
    have e10 : (op == 10) = false := by rw [beq_eq_false_iff_ne]; omega
    have e11 : (op == 11) = false := by rw [beq_eq_false_iff_ne]; omega
    have e12 : (op == 12) = false := by rw [beq_eq_false_iff_ne]; omega
    have e13 : (op == 13) = false := by rw [beq_eq_false_iff_ne]; omega
    have e14 : (op == 14) = false := by rw [beq_eq_false_iff_ne]; omega
    have e15 : (op == 15) = false := by rw [beq_eq_false_iff_ne]; omega
    rw [hk]
    clear hk hr
    go_enter Try.func16, Try.ntmps16
    go_wp2_with fail
    go_ret
    exact ⟨rfl, rfl⟩

set_option maxHeartbeats 1000000 in
theorem number_any (op n : Int) (w : World) : Calls Try.prog 49 #[.int .i64 op, .int .i64 n] w fun e w' => e = .returned (.bool (nodeN op n)) ∧ w = w' := by
  have hnn : nodeN op n = if op = 1 then decide (-1000 ≤ n ∧ n ≤ 1000) else if op = 2 then decide (n = 0 ∨ n = 1) else if op = 3 ∨ op = 4 then decide (0 ≤ n ∧ n < 6) else decide (n = 0) := rfl
  by_cases o1 : op = 1
  · have o1b : (op == 1) = true := by simp [o1]
    rw [if_pos o1] at hnn
    rw [Bool.decide_and] at hnn
    cases n1 : decide (-1000 ≤ n) <;> cases n2 : decide (n ≤ 1000)
    all_goals
      simp only [n1, n2, Bool.and_true, Bool.true_and, Bool.and_false, Bool.false_and] at hnn
      have Hr2 := hide hnn
      clear hnn o1
      go_enter Try.func49, Try.ntmps49
      go_wp2_with fail
      go_ret
      exact ⟨ret_bool Hr2.out.symm, rfl⟩
  · have o1b : (op == 1) = false := by simp [o1]
    rw [if_neg o1] at hnn
    by_cases o2 : op = 2
    · have o2b : (op == 2) = true := by simp [o2]
      rw [if_pos o2] at hnn
      by_cases n1 : n = 0
      · have n1b : (n == 0) = true := by simp [n1]
        have Hr2 : Hid (nodeN op n = true) := hide (hnn.trans (by simp [n1]))
        clear hnn o1 o2 n1
        go_enter Try.func49, Try.ntmps49
        go_wp2_with fail
        go_ret
        exact ⟨ret_bool Hr2.out.symm, rfl⟩
      · have n1b : (n == 0) = false := by simp [n1]
        by_cases n2 : n = 1
        · have n2b : (n == 1) = true := by simp [n2]
          have Hr2 : Hid (nodeN op n = true) := hide (hnn.trans (by simp [n2]))
          clear hnn o1 o2 n1 n2
          go_enter Try.func49, Try.ntmps49
          go_wp2_with fail
          go_ret
          exact ⟨ret_bool Hr2.out.symm, rfl⟩
        · have n2b : (n == 1) = false := by simp [n2]
          have Hr2 : Hid (nodeN op n = false) := hide (hnn.trans (by simp [n1, n2]))
          clear hnn o1 o2 n1 n2
          go_enter Try.func49, Try.ntmps49
          go_wp2_with fail
          go_ret
          exact ⟨ret_bool Hr2.out.symm, rfl⟩
    · have o2b : (op == 2) = false := by simp [o2]
      rw [if_neg o2] at hnn
      by_cases o3 : op = 3 ∨ op = 4
      · rw [if_pos o3] at hnn
        have o3b : (op == 3) = true ∨ ((op == 3) = false ∧ (op == 4) = true) := by
          by_cases h : op = 3
          · exact .inl (by simp [h])
          · exact .inr ⟨by simp [h], by rcases o3 with h' | h' <;> simp_all⟩
        rw [Bool.decide_and] at hnn
        cases n1 : decide (0 ≤ n) <;> cases n2 : decide (n < 6)
        all_goals
          simp only [n1, n2, Bool.and_true, Bool.true_and, Bool.and_false, Bool.false_and] at hnn
          have Hr2 := hide hnn
          clear hnn o1 o2 o3
          rcases o3b with o3b | ⟨o3b, o4b⟩
          all_goals
            go_enter Try.func49, Try.ntmps49
            go_wp2_with fail
            go_ret
            exact ⟨ret_bool Hr2.out.symm, rfl⟩
      · rw [if_neg o3] at hnn
        have o3b : (op == 3) = false := by simp; exact fun h => o3 (.inl h)
        have o4b : (op == 4) = false := by simp; exact fun h => o3 (.inr h)
        have Hr2 := hide hnn
        have hnb : (n == 0) = decide (n = 0) := by by_cases h : n = 0 <;> simp [h]
        rw [← hnb] at Hr2
        clear hnn o1 o2 o3 hnb
        go_enter Try.func49, Try.ntmps49
        go_wp2_with fail
        go_ret
        exact ⟨ret_bool Hr2.out.symm, rfl⟩

theorem nodeB_eq (op n : Int) (len : Nat) : nodeB op n len = (decide ((len : Int) = kidsOf op) && nodeN op n) := by
  show (decide (0 ≤ kidsOf op ∧ (len : Int) = kidsOf op) && nodeN op n) = _
  congr 1
  exact decide_eq_decide.2 ⟨fun h => h.2, fun h => ⟨by omega, h⟩⟩

set_option maxHeartbeats 1000000 in
theorem valid_any (B : Nat) : ∀ (d : Nat) (op n : Int) (A : Option Addr) (len cap : Nat) (t : T) (w : World), B ≤ w.heap.size → RE w B d op n A len cap t →
    Calls Try.prog 37 #[.agg #[.int .i64 op, .int .i64 n, .slice A len cap]] w fun e w' => e = .returned (.bool (sound t)) ∧ Below w.heap.size w w' := by
  intro d
  induction d with
  | zero => intro op n A len cap t w hB h; exact absurd h id
  | succ d ih =>
    intro op n A len cap t w hB hre
    have IH := hide ih; clear ih
    have Hre := hide hre
    obtain ⟨hx1, hx2, hlen, hcap, hmx, hx6⟩ := hre
    unfold maxLen at hmx
    have Hlen := hide hlen
    have Hs : Hid (sound t = (decide ((len : Int) = kidsOf op) && nodeN op n && soundK t.kids)) := hide (by rw [sound_eq, hx1, hx2, hlen, nodeB_eq])
    clear hlen hx1 hx2 hx6
    have hbx : Below w.heap.size w (w.alloc (.cells #[.int .i64 op, .int .i64 n, .slice A len cap] 25)) := (Below.refl _ _).alloc (Nat.le_refl _) _
    generalize hk : kidsOf op = kk at *
    have Hk := hide hk; clear hk
    generalize hnn : nodeN op n = nn at *
    have Hn := hide hnn; clear hnn
    by_cases k1 : (len : Int) = kk
    · have k1b : ((len : Int) != kk) = false := by simp [k1]
      cases nn
      · have Hr : Hid (sound t = false) := hide (by rw [Hs.out]; simp)
        clear k1
        go_enter Try.func37, Try.ntmps37
        go_wp2_with fail
        go_quiet (first | (go_at_call 16; exact Calls.quiet_of_same ((kids_any op _).mono (fun e w' h => ⟨by rw [h.1, Hk.out], h.2.symm⟩))) | (go_at_call 49; exact Calls.quiet_of_same ((number_any op n _).mono (fun e w' h => ⟨by rw [h.1, Hn.out], h.2.symm⟩))))
        go_wp2_with fail
        go_ret
        exact ⟨ret_bool Hr.out.symm, below_drewN hbx _⟩
      · have Hr : Hid (sound t = soundK t.kids) := hide (by rw [Hs.out, k1]; simp)
        clear k1
        go_enter Try.func37, Try.ntmps37
        go_wp2_with fail
        go_quiet (first | (go_at_call 16; exact Calls.quiet_of_same ((kids_any op _).mono (fun e w' h => ⟨by rw [h.1, Hk.out], h.2.symm⟩))) | (go_at_call 49; exact Calls.quiet_of_same ((number_any op n _).mono (fun e w' h => ⟨by rw [h.1, Hn.out], h.2.symm⟩))))
        go_wp2_with fail
        go_loopw [23] (fun i wr => ∃ (k : Nat), k ≤ len ∧ i = .int .i64 k ∧ Hid (soundK (t.kids.drop k) = soundK t.kids) ∧ Below w.heap.size w wr) (fun i _ => len - (intOf i).toNat)
        case atStart => exact ⟨0, Nat.zero_le _, rfl, hide rfl, below_drewN hbx _⟩
        case round =>
          obtain ⟨k, hk, rfl, HT, hb⟩ := hrel
          have hsz := hb.size
          by_cases hlt : k < len
          · have hlt' : ((k : Int) < (len : Int)) := by omega
            obtain ⟨b, off, u, op2, n2, A2, l2, c2, rfl, hbB, hku, ⟨c0, c1, cs⟩, hre2⟩ := (Hre.out.below (hb.mono hB)).at_ hlt
            have Hst : Hid ((sound u && soundK (t.kids.drop (k + 1))) = soundK t.kids) := hide (by rw [← HT.out, drop_at hku, soundK])
            clear hku
            have Hre3 := hide (hre2.below ((Below.refl B wr).alloc (by omega) (.cells #[.int .i64 op2, .int .i64 n2, .slice A2 l2 c2] 25)))
            clear hre2
            have hbz : B ≤ (wr.alloc (.cells #[.int .i64 op2, .int .i64 n2, .slice A2 l2 c2] 25)).heap.size := by simp; omega
            go_wp2_with fail
            refine (IH.out op2 n2 A2 l2 c2 u _ hbz Hre3.out).mono ?_
            rintro e w2 ⟨rfl, hb2⟩
            have hbw2 := below_box hb (Nat.le_refl _) hb2
            clear hb2 c0 c1 cs Hre3 hbz
            cases hu : sound u
            · have Hf : Hid (sound t = false) := hide (by rw [Hr.out, ← Hst.out, hu]; rfl)
              clear hu
              go_wp2_with fail
              go_ret
              exact ⟨ret_bool Hf.out.symm, hbw2⟩
            · have Hon : Hid (soundK (t.kids.drop (k + 1)) = soundK t.kids) := hide (by rw [← Hst.out, hu]; rfl)
              clear hu
              go_wp2_with fail
              go_roundw
              case rel => exact ⟨k + 1, by omega, by go_num, Hon, hbw2⟩
              case measure => simp [intOf]; omega
          · have hlt' : ¬ ((k : Int) < (len : Int)) := by omega
            have Hf : Hid (sound t = true) := hide (by rw [Hr.out, ← HT.out, List.drop_of_length_le (by rw [Hlen.out]; omega), soundK])
            go_wp2_with fail
            go_ret
            exact ⟨ret_bool Hf.out.symm, hb⟩
    · have k1b : ((len : Int) != kk) = true := by simp [k1]
      have Hr : Hid (sound t = false) := hide (by rw [Hs.out, decide_eq_false k1]; rfl)
      clear k1
      go_enter Try.func37, Try.ntmps37
      go_wp2_with fail
      go_quiet (first | (go_at_call 16; exact Calls.quiet_of_same ((kids_any op _).mono (fun e w' h => ⟨by rw [h.1, Hk.out], h.2.symm⟩))) | (go_at_call 49; exact Calls.quiet_of_same ((number_any op n _).mono (fun e w' h => ⟨by rw [h.1, Hn.out], h.2.symm⟩))))
      go_wp2_with fail
      go_ret
      exact ⟨ret_bool Hr.out.symm, below_drewN hbx _⟩

set_option maxHeartbeats 400000 in
theorem may_any (B d : Nat) (op n : Int) (A : Option Addr) (len cap : Nat) (t : T) (w : World) (hB : B ≤ w.heap.size) (hre : RE w B d op n A len cap t) :
    Calls Try.prog 21 #[.agg #[.int .i64 op, .int .i64 n, .slice A len cap]] w fun e w' => e = .returned (.int .i64 (mayE t)) ∧ Below w.heap.size w w' := by
  have Hre := hide (hre.below ((Below.refl B w).alloc hB (.cells #[.int .i64 op, .int .i64 n, .slice A len cap] 25)))
  clear hre
  have hbz : B ≤ (w.alloc (.cells #[.int .i64 op, .int .i64 n, .slice A len cap] 25)).heap.size := by simp; omega
  have Hbox := hide (box_new w op n A len cap 25)
  go_enter Try.func21, Try.ntmps21
  go_wp2_with fail
  refine (fits_any B d op n A len cap t _ hbz Hre.out).mono ?_
  rintro e w1 ⟨rfl, hb1⟩
  have hz1 := hb1.size
  have hbw1 := below_box (Below.refl w.heap.size w) (Nat.le_refl _) hb1
  obtain ⟨d0, d1, d2⟩ := Hbox.out.below hb1 (by simp)
  have Hre1 := hide (Hre.out.below (hb1.mono hbz))
  have hbz1 : B ≤ w1.heap.size := by omega
  clear hb1 hbz Hre Hbox
  cases hf : fitsB t
  · have Hr : Hid (mayE t = 7) := hide (by unfold mayE; rw [hf]; rfl)
    go_wp2_with fail
    go_ret
    exact ⟨ret_int Hr.out.symm, hbw1⟩
  · go_wp2_with fail
    refine (valid_any B d op n A len cap t _ hbz1 Hre1.out).mono ?_
    rintro e w2 ⟨rfl, hb2⟩
    have hbw2 := hbw1.trans (hb2.mono hbw1.size)
    clear hb2 d0 d1 d2
    cases hs : sound t
    · have Hr : Hid (mayE t = 1) := hide (by unfold mayE; rw [hf, hs]; rfl)
      go_wp2_with fail
      go_ret
      exact ⟨ret_int Hr.out.symm, hbw2⟩
    · have Hr : Hid (mayE t = 0) := hide (by unfold mayE; rw [hf, hs]; rfl)
      go_wp2_with fail
      go_ret
      exact ⟨ret_int Hr.out.symm, hbw2⟩
end Go.Proofs.Ytdjllpejonfpgaa.Ex
