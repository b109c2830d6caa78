/- The walk of the reference's count. The walks of the reference's Kids, node, sound, fits, MayExpr, Nodes. The walks of the reference's sound, fits, MayExpr, Nodes; weigh and Heavy of the statements. Nodes down to the twelfth level, depth, as plain functions; how the reference's count says the same. The walks of the program's count, Nodes, isDeep, fits. The walks of the program's Kids, isNumber, isValid, May. The walks of the reference's same and SameExpr. The walks of the program's equal and Same. -/
import Derived.Test.YtbppdalfcldodaaGreatProg
import Derived.Test.YtbppdalfcldodaaGreatEWords
import Derived.WalkSpells
import Derived.WalkLawsBesides
import Derived.Deep.QuietTactic
import Derived.BigQuiet
import Derived.Lib.QuietBelow
import Derived.IntWalk
namespace Go.Proofs.YtbppdalfcldodaaGreat.Ex
open Go.RowKit
set_option linter.unusedSimpArgs false
set_option linter.unusedVariables false

set_option maxHeartbeats 1000000 in
theorem count_any (B : Nat) : ∀ (d : Nat) (op n : Int) (A : Option Addr) (len cap : Nat) (t : T) (deep room : Int) (w : World), B ≤ w.heap.size → RE w B d op n A len cap t → 1 ≤ deep → deep ≤ 12 → 0 ≤ room → room ≤ 1000 →
    Calls Tryz.prog 142 #[.agg #[.int .i64 op, .int .i64 n, .slice A len cap], .int .i64 deep, .int .i64 room] w fun e w' => e = .returned (.tuple #[.int .i64 (cnt t deep room).1, .bool (cnt t deep room).2]) ∧ Below w.heap.size w w' := by
  intro d
  induction d with
  | zero => intro op n A len cap t deep room w hB h; exact absurd h id
  | succ d ih =>
    intro op n A len cap t deep room w hB hre hd1 hd2 hr1 hr2
    have IH := hide ih; clear ih
    have Hre := hide hre
    obtain ⟨hx1, hx2, hlen, hcap, hmx, hx6⟩ := hre
    clear hx1 hx2 hx6
    unfold maxLen at hmx
    have Hlen := hide hlen
    clear hlen
    by_cases h12 : deep = 12
    · subst h12
      have Hc := hide (cnt_12 t room)
      rw [Hc.out]
      have hlen0 : decide (0 < t.kids.length) = decide (0 < len) := by rw [Hlen.out]
      rw [hlen0]
      have h12b : ((12 : Int) == 12) = true := rfl
      clear hlen0 Hc
      go_enter Tryz.func142, Tryz.ntmps142
      go_wp2_with fail
      go_quiet (fail)
      go_wp2_with fail
      go_ret2
      exact ⟨rfl, below_drewN ((Below.refl _ _).alloc (Nat.le_refl _) _) _⟩
    · have h12b : (deep == 12) = false := by simp [h12]
      have Hc := hide (cnt_on t deep room h12)
      rw [Hc.out]
      have hd3 : deep ≤ 11 := by omega
      clear h12 Hc
      go_enter Tryz.func142, Tryz.ntmps142
      go_wp2_with fail
      have hbx : Below w.heap.size w (w.alloc (.cells #[.int .i64 op, .int .i64 n, .slice A len cap] 25)) := (Below.refl _ _).alloc (Nat.le_refl _) _
      go_loopw [8, 9, 23] (fun a b i wr => ∃ (k : Nat) (m : Int) (over : Bool), k ≤ len ∧ i = .int .i64 k ∧ a = .int .i64 m ∧ b = .bool over ∧ 1 ≤ m ∧ m ≤ room + 1 ∧ Hid (cntK (t.kids.drop k) deep room m over = cntK t.kids deep room 1 false) ∧ Below w.heap.size w wr) (fun _ _ i _ => len - (intOf i).toNat)
      case atStart => exact ⟨0, 1, false, Nat.zero_le _, rfl, rfl, rfl, by omega, by omega, hide rfl, hbx⟩
      case round =>
        obtain ⟨k, m, over, hk, rfl, rfl, rfl, hm1, hm2, HT, hb⟩ := hrel
        have hsz := hb.size
        by_cases hlt : k < len
        · have hlt' : ((k : Int) < (len : Int)) := by omega
          obtain ⟨b, off, u, op2, n2, A2, l2, c2, rfl, hbB, hku, ⟨c0, c1, cs⟩, hre2⟩ := (Hre.out.below (hb.mono hB)).at_ hlt
          have Hku := hide hku; clear hku
          have Hre2 := hide hre2; clear hre2
          by_cases hmr : room < m
          · have hmrb : decide (room < m) = true := by simp [hmr]
            have Hfin := hide (HT.out.symm.trans (cntK_full Hku.out hmr))
            go_wp2_with fail
            go_ret2
            refine ⟨?_, hb.alloc hsz _⟩
            rw [Hfin.out]; rfl
          · have hmrb : decide (room < m) = false := by simp; omega
            have Hon := hide ((cntK_step Hku.out hmr).symm.trans HT.out)
            obtain ⟨q1, q2⟩ := cnt_bd u (deep + 1) (room - m) (by omega)
            have hre3 := Hre2.out.below ((Below.refl B wr).alloc (by omega) (.cells #[.int .i64 op2, .int .i64 n2, .slice A2 l2 c2] 25))
            have Hre3 := hide hre3; clear hre3
            have hbz : B ≤ (wr.alloc (.cells #[.int .i64 op2, .int .i64 n2, .slice A2 l2 c2] 25)).heap.size := by simp; omega
            by_cases hdd : deep + 1 ≤ 12
            · go_wp2_with fail
              refine (IH.out op2 n2 A2 l2 c2 u (deep + 1) (room - m) _ hbz Hre3.out (by omega) (by omega) (by omega) (by omega)).mono ?_
              rintro e w1 ⟨rfl, hb1⟩
              have hbw1 := below_box hb (Nat.le_refl _) hb1
              generalize cnt u (deep + 1) (room - m) = c at *
              obtain ⟨cn, co⟩ := c
              clear hb1 c0 c1 cs Hre3 hbz
              simp only at q1 q2 Hon ⊢
              cases over
              · go_wp2_with fail
                go_roundw
                case rel => exact ⟨k + 1, m + cn, co, by omega, by go_num, rfl, rfl, by omega, by omega, Hon, hbw1⟩
                case measure => simp [intOf]; omega
              · go_wp2_with fail
                go_roundw
                case rel => exact ⟨k + 1, m + cn, true, by omega, by go_num, rfl, rfl, by omega, by omega, Hon, hbw1⟩
                case measure => simp [intOf]; omega
            · omega
        · have hlt' : ¬ ((k : Int) < (len : Int)) := by omega
          have Hfin := hide (HT.out.symm.trans (cntK_end (by rw [Hlen.out]; omega)))
          go_wp2_with fail
          go_ret2
          refine ⟨?_, hb⟩
          rw [Hfin.out, if_neg (by omega)]; rfl
end Go.Proofs.YtbppdalfcldodaaGreat.Ex
namespace Go.Proofs.YtbppdalfcldodaaGreat.Ex
open Go.RowKit
set_option linter.unusedSimpArgs false
set_option linter.unusedVariables false

def kidsOf (op : Int) : Int := if 1 ≤ op ∧ op ≤ 4 then 0 else if op = 5 then 1 else if 6 ≤ op ∧ op ≤ 14 then 2 else if op = 15 then 3 else -1
set_option maxHeartbeats 400000 in
theorem rkids_any (op : Int) (w : World) : Calls Tryz.prog 156 #[.int .i64 op] w fun e w' => e = .returned (.int .i64 (kidsOf op)) ∧ w = w' := by
  have hk : kidsOf op = if 1 ≤ op ∧ op ≤ 4 then 0 else if op = 5 then 1 else if 6 ≤ op ∧ op ≤ 14 then 2 else if op = 15 then 3 else -1 := rfl
  by_cases h1 : 1 ≤ op <;> by_cases h2 : op ≤ 4 <;> by_cases h3 : op = 5 <;> by_cases h4 : 6 ≤ op <;> by_cases h5 : op ≤ 14 <;> by_cases h6 : op = 15
  all_goals first
    | (exfalso; omega)
    | (have h3b : (op == 5) = decide (op = 5) := by by_cases h : op = 5 <;> simp [h]
       have h6b : (op == 15) = decide (op = 15) := by by_cases h : op = 15 <;> simp [h]
       simp only [h1, h2, h3, h4, h5, h6, and_true, true_and, and_false, false_and, if_true, if_false, decide_true, decide_false] at hk h3b h6b
       first | rw [hk] | (subst h3; rw [hk]) | (subst h6; rw [hk])
       clear hk
       try clear h3
       try clear h6
       go_enter Tryz.func156, Tryz.ntmps156
       go_wp2_with fail
       go_ret
       exact ⟨rfl, rfl⟩)

def nodeB (op n : Int) (len : Nat) : Bool := decide (0 ≤ kidsOf op ∧ (len : Int) = kidsOf op) && (if op = 1 then decide (-1000 ≤ n ∧ n ≤ 1000) else if op = 2 then decide (n = 0 ∨ n = 1) else if op = 3 ∨ op = 4 then decide (0 ≤ n ∧ n < 6) else decide (n = 0))
def nodeN (op n : Int) : Bool := if op = 1 then decide (-1000 ≤ n ∧ n ≤ 1000) else if op = 2 then decide (n = 0 ∨ n = 1) else if op = 3 ∨ op = 4 then decide (0 ≤ n ∧ n < 6) else decide (n = 0)

set_option maxHeartbeats 1000000 in
theorem rnode_any (op n : Int) (A : Option Addr) (len cap : Nat) (w : World) (hl : len ≤ maxLen) : Calls Tryz.prog 143 #[.agg #[.int .i64 op, .int .i64 n, .slice A len cap]] w fun e w' => e = .returned (.bool (nodeB op n len)) ∧ Below w.heap.size w w' := by
  unfold maxLen at hl
  have hN : nodeB op n len = (decide (0 ≤ kidsOf op ∧ (len : Int) = kidsOf op) && nodeN op n) := rfl
  have hbx : Below w.heap.size w (w.alloc (.cells #[.int .i64 op, .int .i64 n, .slice A len cap] 25)) := (Below.refl _ _).alloc (Nat.le_refl _) _
  generalize hk : kidsOf op = kk at *
  have Hk := hide hk; clear hk
  by_cases k0 : kk < 0
  · have k0b : decide (kk < 0) = true := by simp [k0]
    have Hr : Hid (nodeB op n len = false) := hide (by rw [hN]; simp; omega)
    clear hN k0
    go_enter Tryz.func143, Tryz.ntmps143
    go_wp2_with fail
    go_quiet ((go_at_call 156; exact Calls.quiet_of_same ((rkids_any op _).mono (fun e w' h => ⟨by rw [h.1, Hk.out], h.2.symm⟩))))
    go_wp2_with fail
    go_ret
    exact ⟨ret_bool Hr.out.symm, below_drewN hbx _⟩
  · have k0b : decide (kk < 0) = false := by simp; omega
    by_cases k1 : (len : Int) = kk
    · have k1b : ((len : Int) != kk) = false := by simp [k1]
      have Hr : Hid (nodeB op n len = nodeN op n) := hide (by rw [hN, decide_eq_true ⟨by omega, k1⟩, Bool.true_and])
      clear hN k0 k1
      have hnn : nodeN op n = if op = 1 then decide (-1000 ≤ n ∧ n ≤ 1000) else if op = 2 then decide (n = 0 ∨ n = 1) else if op = 3 ∨ op = 4 then decide (0 ≤ n ∧ n < 6) else decide (n = 0) := rfl
      by_cases o1 : op = 1
      · have o1b : (op == 1) = true := by simp [o1]
        rw [if_pos o1] at hnn
        rw [Bool.decide_and] at hnn
        cases n1 : decide (-1000 ≤ n) <;> cases n2 : decide (n ≤ 1000)
        all_goals
          simp only [n1, n2, Bool.and_true, Bool.true_and, Bool.and_false, Bool.false_and] at hnn
          have Hr2 := hide (Hr.out.trans hnn)
          clear hnn o1
          go_enter Tryz.func143, Tryz.ntmps143
          go_wp2_with fail
          go_quiet ((go_at_call 156; exact Calls.quiet_of_same ((rkids_any op _).mono (fun e w' h => ⟨by rw [h.1, Hk.out], h.2.symm⟩))))
          go_wp2_with fail
          go_ret
          exact ⟨ret_bool Hr2.out.symm, below_drewN hbx _⟩
      · have o1b : (op == 1) = false := by simp [o1]
        rw [if_neg o1] at hnn
        by_cases o2 : op = 2
        · have o2b : (op == 2) = true := by simp [o2]
          rw [if_pos o2] at hnn
          by_cases n1 : n = 0
          · have n1b : (n == 0) = true := by simp [n1]
            have Hr2 : Hid (nodeB op n len = true) := hide (Hr.out.trans (hnn.trans (by simp [n1])))
            clear hnn o1 o2 n1
            go_enter Tryz.func143, Tryz.ntmps143
            go_wp2_with fail
            go_quiet ((go_at_call 156; exact Calls.quiet_of_same ((rkids_any op _).mono (fun e w' h => ⟨by rw [h.1, Hk.out], h.2.symm⟩))))
            go_wp2_with fail
            go_ret
            exact ⟨ret_bool Hr2.out.symm, below_drewN hbx _⟩
          · have n1b : (n == 0) = false := by simp [n1]
            by_cases n2 : n = 1
            · have n2b : (n == 1) = true := by simp [n2]
              have Hr2 : Hid (nodeB op n len = true) := hide (Hr.out.trans (hnn.trans (by simp [n2])))
              clear hnn o1 o2 n1 n2
              go_enter Tryz.func143, Tryz.ntmps143
              go_wp2_with fail
              go_quiet ((go_at_call 156; exact Calls.quiet_of_same ((rkids_any op _).mono (fun e w' h => ⟨by rw [h.1, Hk.out], h.2.symm⟩))))
              go_wp2_with fail
              go_ret
              exact ⟨ret_bool Hr2.out.symm, below_drewN hbx _⟩
            · have n2b : (n == 1) = false := by simp [n2]
              have Hr2 : Hid (nodeB op n len = false) := hide (Hr.out.trans (hnn.trans (by simp [n1, n2])))
              clear hnn o1 o2 n1 n2
              go_enter Tryz.func143, Tryz.ntmps143
              go_wp2_with fail
              go_quiet ((go_at_call 156; exact Calls.quiet_of_same ((rkids_any op _).mono (fun e w' h => ⟨by rw [h.1, Hk.out], h.2.symm⟩))))
              go_wp2_with fail
              go_ret
              exact ⟨ret_bool Hr2.out.symm, below_drewN hbx _⟩
        · have o2b : (op == 2) = false := by simp [o2]
          rw [if_neg o2] at hnn
          by_cases o3 : op = 3 ∨ op = 4
          · rw [if_pos o3] at hnn
            have o3b : (op == 3) = true ∨ ((op == 3) = false ∧ (op == 4) = true) := by
              by_cases h : op = 3
              · exact .inl (by simp [h])
              · exact .inr ⟨by simp [h], by rcases o3 with h' | h' <;> simp_all⟩
            rw [Bool.decide_and] at hnn
            cases n1 : decide (0 ≤ n) <;> cases n2 : decide (n < 6)
            all_goals
              simp only [n1, n2, Bool.and_true, Bool.true_and, Bool.and_false, Bool.false_and] at hnn
              have Hr2 := hide (Hr.out.trans hnn)
              clear hnn o1 o2 o3
              rcases o3b with o3b | ⟨o3b, o4b⟩
              all_goals
                go_enter Tryz.func143, Tryz.ntmps143
                go_wp2_with fail
                go_quiet ((go_at_call 156; exact Calls.quiet_of_same ((rkids_any op _).mono (fun e w' h => ⟨by rw [h.1, Hk.out], h.2.symm⟩))))
                go_wp2_with fail
                go_ret
                exact ⟨ret_bool Hr2.out.symm, below_drewN hbx _⟩
          · rw [if_neg o3] at hnn
            have o3b : (op == 3) = false := by simp; exact fun h => o3 (.inl h)
            have o4b : (op == 4) = false := by simp; exact fun h => o3 (.inr h)
            have Hr2 := hide (Hr.out.trans hnn)
            have hnb : (n == 0) = decide (n = 0) := by by_cases h : n = 0 <;> simp [h]
            rw [← hnb] at Hr2
            clear hnn o1 o2 o3 hnb
            go_enter Tryz.func143, Tryz.ntmps143
            go_wp2_with fail
            go_quiet ((go_at_call 156; exact Calls.quiet_of_same ((rkids_any op _).mono (fun e w' h => ⟨by rw [h.1, Hk.out], h.2.symm⟩))))
            go_wp2_with fail
            go_ret
            exact ⟨ret_bool Hr2.out.symm, below_drewN hbx _⟩
    · have k1b : ((len : Int) != kk) = true := by simp [k1]
      have Hr : Hid (nodeB op n len = false) := hide (by rw [hN, decide_eq_false (fun h => k1 h.2)]; rfl)
      clear hN k0 k1
      go_enter Tryz.func143, Tryz.ntmps143
      go_wp2_with fail
      go_quiet ((go_at_call 156; exact Calls.quiet_of_same ((rkids_any op _).mono (fun e w' h => ⟨by rw [h.1, Hk.out], h.2.symm⟩))))
      go_wp2_with fail
      go_ret
      exact ⟨ret_bool Hr.out.symm, below_drewN hbx _⟩
end Go.Proofs.YtbppdalfcldodaaGreat.Ex
namespace Go.Proofs.YtbppdalfcldodaaGreat.Ex
open Go.RowKit
set_option linter.unusedSimpArgs false
set_option linter.unusedVariables false

mutual
def sound : T → Bool
  | .mk op n ks => nodeB op n ks.length && soundK ks
def soundK : List T → Bool
  | [] => true
  | k :: r => sound k && soundK r
end
theorem sound_eq (t : T) : sound t = (nodeB t.op t.n t.kids.length && soundK t.kids) := by cases t; rw [sound]; rfl

set_option maxHeartbeats 1000000 in
theorem rsound_any (B : Nat) : ∀ (d : Nat) (op n : Int) (A : Option Addr) (len cap : Nat) (t : T) (w : World), B ≤ w.heap.size → RE w B d op n A len cap t →
    Calls Tryz.prog 114 #[.agg #[.int .i64 op, .int .i64 n, .slice A len cap]] w fun e w' => e = .returned (.bool (sound t)) ∧ Below w.heap.size w w' := by
  intro d
  induction d with
  | zero => intro op n A len cap t w hB h; exact absurd h id
  | succ d ih =>
    intro op n A len cap t w hB hre
    have IH := hide ih; clear ih
    have Hre := hide hre
    obtain ⟨hx1, hx2, hlen, hcap, hmx, hx6⟩ := hre
    have Hlm : Hid (len ≤ maxLen) := hide (Nat.le_trans hcap hmx)
    unfold maxLen at hmx
    have Hlen := hide hlen
    have Hs : Hid (sound t = (nodeB op n len && soundK t.kids)) := hide (by rw [sound_eq, hx1, hx2, hlen])
    clear hlen hx1 hx2 hx6
    have hbx : Below w.heap.size w (w.alloc (.cells #[.int .i64 op, .int .i64 n, .slice A len cap] 25)) := (Below.refl _ _).alloc (Nat.le_refl _) _
    have Hbox := hide (box_new w op n A len cap 25)
    go_enter Tryz.func114, Tryz.ntmps114
    go_wp2_with fail
    refine (rnode_any op n A len cap _ Hlm.out).mono ?_
    rintro e w1 ⟨rfl, hb1⟩
    have hbw1 := below_box (Below.refl w.heap.size w) (Nat.le_refl _) hb1
    obtain ⟨d0, d1, d2⟩ := Hbox.out.below hb1 (by simp)
    clear hb1 hbx Hbox
    cases hN : nodeB op n len
    · have Hr : Hid (sound t = false) := hide (by rw [Hs.out, hN]; rfl)
      clear hN
      go_wp2_with fail
      go_ret
      exact ⟨ret_bool Hr.out.symm, hbw1⟩
    · have Hr : Hid (sound t = soundK t.kids) := hide (by rw [Hs.out, hN]; rfl)
      clear hN
      go_wp2_with fail
      clear d0 d1 d2
      go_loopw [11] (fun i wr => ∃ (k : Nat), k ≤ len ∧ i = .int .i64 k ∧ Hid (soundK (t.kids.drop k) = soundK t.kids) ∧ Below w.heap.size w wr) (fun i _ => len - (intOf i).toNat)
      case atStart => exact ⟨0, Nat.zero_le _, rfl, hide rfl, hbw1⟩
      case round =>
        obtain ⟨k, hk, rfl, HT, hb⟩ := hrel
        have hsz := hb.size
        by_cases hlt : k < len
        · have hlt' : ((k : Int) < (len : Int)) := by omega
          obtain ⟨b, off, u, op2, n2, A2, l2, c2, rfl, hbB, hku, ⟨c0, c1, cs⟩, hre2⟩ := (Hre.out.below (hb.mono hB)).at_ hlt
          have Hst : Hid ((sound u && soundK (t.kids.drop (k + 1))) = soundK t.kids) := hide (by rw [← HT.out, drop_at hku, soundK])
          clear hku
          have Hre3 := hide (hre2.below ((Below.refl B wr).alloc (by omega) (.cells #[.int .i64 op2, .int .i64 n2, .slice A2 l2 c2] 25)))
          clear hre2
          have hbz : B ≤ (wr.alloc (.cells #[.int .i64 op2, .int .i64 n2, .slice A2 l2 c2] 25)).heap.size := by simp; omega
          go_wp2_with fail
          refine (IH.out op2 n2 A2 l2 c2 u _ hbz Hre3.out).mono ?_
          rintro e w2 ⟨rfl, hb2⟩
          have hbw2 := below_box hb (Nat.le_refl _) hb2
          clear hb2 c0 c1 cs Hre3 hbz
          cases hu : sound u
          · have Hf : Hid (sound t = false) := hide (by rw [Hr.out, ← Hst.out, hu]; rfl)
            clear hu
            go_wp2_with fail
            go_ret
            exact ⟨ret_bool Hf.out.symm, hbw2⟩
          · have Hon : Hid (soundK (t.kids.drop (k + 1)) = soundK t.kids) := hide (by rw [← Hst.out, hu]; rfl)
            clear hu
            go_wp2_with fail
            go_roundw
            case rel => exact ⟨k + 1, by omega, by go_num, Hon, hbw2⟩
            case measure => simp [intOf]; omega
        · have hlt' : ¬ ((k : Int) < (len : Int)) := by omega
          have Hf : Hid (sound t = true) := hide (by rw [Hr.out, ← HT.out, List.drop_of_length_le (by rw [Hlen.out]; omega), soundK])
          go_wp2_with fail
          go_ret
          exact ⟨ret_bool Hf.out.symm, hb⟩

def fitsB (t : T) : Bool := decide ((cnt t 1 60).1 ≤ 60) && !(cnt t 1 60).2
def nodesE (t : T) : Int := (cnt t 1 60).1
def mayE (t : T) : Int := if fitsB t = false then 7 else if sound t = false then 1 else 0

set_option maxHeartbeats 400000 in
theorem rfits_any (B d : Nat) (op n : Int) (A : Option Addr) (len cap : Nat) (t : T) (w : World) (hB : B ≤ w.heap.size) (hre : RE w B d op n A len cap t) :
    Calls Tryz.prog 113 #[.agg #[.int .i64 op, .int .i64 n, .slice A len cap]] w fun e w' => e = .returned (.bool (fitsB t)) ∧ Below w.heap.size w w' := by
  have Hre := hide (hre.below ((Below.refl B w).alloc hB (.cells #[.int .i64 op, .int .i64 n, .slice A len cap] 25)))
  clear hre
  have hbz : B ≤ (w.alloc (.cells #[.int .i64 op, .int .i64 n, .slice A len cap] 25)).heap.size := by simp; omega
  have hf : fitsB t = (decide ((cnt t 1 60).1 ≤ 60) && !(cnt t 1 60).2) := rfl
  have Hf := hide hf; clear hf
  go_enter Tryz.func113, Tryz.ntmps113
  go_wp2_with fail
  refine (count_any B d op n A len cap t 1 60 _ hbz Hre.out (by omega) (by omega) (by omega) (by omega)).mono ?_
  rintro e w1 ⟨rfl, hb1⟩
  have hbw1 := below_box (Below.refl w.heap.size w) (Nat.le_refl _) hb1
  clear hb1 hbz Hre
  generalize cnt t 1 60 = c at *
  obtain ⟨cn, co⟩ := c
  simp only at Hf ⊢
  cases h1 : decide (cn ≤ 60)
  · have Hr : Hid (fitsB t = false) := hide (by rw [Hf.out, h1]; rfl)
    go_wp2_with fail
    go_ret
    exact ⟨ret_bool Hr.out.symm, hbw1⟩
  · have Hr : Hid (fitsB t = !co) := hide (by rw [Hf.out, h1]; rfl)
    go_wp2_with fail
    go_ret
    exact ⟨ret_bool Hr.out.symm, hbw1⟩

set_option maxHeartbeats 400000 in
theorem rmay_any (B d : Nat) (op n : Int) (A : Option Addr) (len cap : Nat) (t : T) (w : World) (hB : B ≤ w.heap.size) (hre : RE w B d op n A len cap t) :
    Calls Tryz.prog 93 #[.agg #[.int .i64 op, .int .i64 n, .slice A len cap]] w fun e w' => e = .returned (.int .i64 (mayE t)) ∧ Below w.heap.size w w' := by
  have Hre := hide (hre.below ((Below.refl B w).alloc hB (.cells #[.int .i64 op, .int .i64 n, .slice A len cap] 25)))
  clear hre
  have hbz : B ≤ (w.alloc (.cells #[.int .i64 op, .int .i64 n, .slice A len cap] 25)).heap.size := by simp; omega
  have Hbox := hide (box_new w op n A len cap 25)
  go_enter Tryz.func93, Tryz.ntmps93
  go_wp2_with fail
  refine (rfits_any B d op n A len cap t _ hbz Hre.out).mono ?_
  rintro e w1 ⟨rfl, hb1⟩
  have hz1 := hb1.size
  have hbw1 := below_box (Below.refl w.heap.size w) (Nat.le_refl _) hb1
  obtain ⟨d0, d1, d2⟩ := Hbox.out.below hb1 (by simp)
  have Hre1 := hide (Hre.out.below (hb1.mono hbz))
  have hbz1 : B ≤ w1.heap.size := by omega
  clear hb1 hbz Hre Hbox
  cases hf : fitsB t
  · have Hr : Hid (mayE t = 7) := hide (by unfold mayE; rw [hf]; rfl)
    go_wp2_with fail
    go_ret
    exact ⟨ret_int Hr.out.symm, hbw1⟩
  · go_wp2_with fail
    refine (rsound_any B d op n A len cap t _ hbz1 Hre1.out).mono ?_
    rintro e w2 ⟨rfl, hb2⟩
    have hbw2 := hbw1.trans (hb2.mono hbw1.size)
    clear hb2 d0 d1 d2
    cases hs : sound t
    · have Hr : Hid (mayE t = 1) := hide (by unfold mayE; rw [hf, hs]; rfl)
      go_wp2_with fail
      go_ret
      exact ⟨ret_int Hr.out.symm, hbw2⟩
    · have Hr : Hid (mayE t = 0) := hide (by unfold mayE; rw [hf, hs]; rfl)
      go_wp2_with fail
      go_ret
      exact ⟨ret_int Hr.out.symm, hbw2⟩

mutual
def wgh : T → Int → Int → Int
  | .mk _ _ ks, deep, room => if 40 < deep ∨ room < 1 then 1000 else wghK ks deep room 1
def wghK : List T → Int → Int → Int → Int
  | [], _, _, n => n
  | k :: r, deep, room, n => if room < n + wgh k (deep + 1) (room - n) then 1000 else wghK r deep room (n + wgh k (deep + 1) (room - n))
end
mutual
theorem wgh_bd : ∀ (t : T) (deep room : Int), room ≤ 1000 → 1 ≤ wgh t deep room ∧ wgh t deep room ≤ 1000
  | .mk o n ks, deep, room, h => by
    rw [wgh]
    split
    · omega
    · exact wghK_bd ks deep room 1 h (by omega) (by omega)
theorem wghK_bd : ∀ (ks : List T) (deep room n : Int), room ≤ 1000 → 1 ≤ n → n ≤ 1000 → 1 ≤ wghK ks deep room n ∧ wghK ks deep room n ≤ 1000
  | [], deep, room, n, h, h1, h2 => by rw [wghK]; omega
  | k :: r, deep, room, n, h, h1, h2 => by
    rw [wghK]
    split
    · omega
    · have := wgh_bd k (deep + 1) (room - n) (by omega)
      exact wghK_bd r deep room _ h (by omega) (by omega)
end
theorem wgh_over (t : T) (deep room : Int) (h : 40 < deep ∨ room < 1) : wgh t deep room = 1000 := by cases t; rw [wgh, if_pos h]
theorem wgh_on (t : T) (deep room : Int) (h : ¬ (40 < deep ∨ room < 1)) : wgh t deep room = wghK t.kids deep room 1 := by cases t; rw [wgh, if_neg h]; rfl

set_option maxHeartbeats 1000000 in
theorem weigh_any (B : Nat) : ∀ (d : Nat) (op n : Int) (A : Option Addr) (len cap : Nat) (t : T) (deep room : Int) (w : World), B ≤ w.heap.size → RE w B d op n A len cap t → 0 ≤ deep → deep ≤ 1000 → -1000 ≤ room → room ≤ 1000 →
    Calls Tryz.prog 36 #[.agg #[.int .i64 op, .int .i64 n, .slice A len cap], .int .i64 deep, .int .i64 room] w fun e w' => e = .returned (.int .i64 (wgh t deep room)) ∧ Below w.heap.size w w' := by
  intro d
  induction d with
  | zero => intro op n A len cap t deep room w hB h; exact absurd h id
  | succ d ih =>
    intro op n A len cap t deep room w hB hre hd1 hd2 hr1 hr2
    have IH := hide ih; clear ih
    have Hre := hide hre
    obtain ⟨hx1, hx2, hlen, hcap, hmx, hx6⟩ := hre
    unfold maxLen at hmx
    have Hlen := hide hlen
    clear hlen hx1 hx2 hx6
    have hbx : Below w.heap.size w (w.alloc (.cells #[.int .i64 op, .int .i64 n, .slice A len cap] 25)) := (Below.refl _ _).alloc (Nat.le_refl _) _
    by_cases h1 : 40 < deep
    · have h1b : decide (40 < deep) = true := by simp [h1]
      have Hr := hide (wgh_over t deep room (.inl h1))
      go_enter Tryz.func36, Tryz.ntmps36
      go_wp2_with fail
      go_ret
      exact ⟨ret_int Hr.out.symm, hbx⟩
    · have h1b : decide (40 < deep) = false := by simp; omega
      by_cases h2 : room < 1
      · have h2b : decide (room < 1) = true := by simp [h2]
        have Hr := hide (wgh_over t deep room (.inr h2))
        go_enter Tryz.func36, Tryz.ntmps36
        go_wp2_with fail
        go_ret
        exact ⟨ret_int Hr.out.symm, hbx⟩
      · have h2b : decide (room < 1) = false := by simp; omega
        have Hr := hide (wgh_on t deep room (by omega))
        go_enter Tryz.func36, Tryz.ntmps36
        go_wp2_with fail
        go_loopw [7, 19] (fun a i wr => ∃ (k : Nat) (m : Int), k ≤ len ∧ i = .int .i64 k ∧ a = .int .i64 m ∧ 1 ≤ m ∧ m ≤ room ∧ Hid (wghK (t.kids.drop k) deep room m = wghK t.kids deep room 1) ∧ Below w.heap.size w wr) (fun _ i _ => len - (intOf i).toNat)
        case atStart => exact ⟨0, 1, Nat.zero_le _, rfl, rfl, by omega, by omega, hide rfl, hbx⟩
        case round =>
          obtain ⟨k, m, hk, rfl, rfl, hm1, hm2, HT, hb⟩ := hrel
          have hsz := hb.size
          by_cases hlt : k < len
          · have hlt' : ((k : Int) < (len : Int)) := by omega
            obtain ⟨b, off, u, op2, n2, A2, l2, c2, rfl, hbB, hku, ⟨c0, c1, cs⟩, hre2⟩ := (Hre.out.below (hb.mono hB)).at_ hlt
            obtain ⟨q1, q2⟩ := wgh_bd u (deep + 1) (room - m) (by omega)
            have Hst : Hid ((if room < m + wgh u (deep + 1) (room - m) then 1000 else wghK (t.kids.drop (k + 1)) deep room (m + wgh u (deep + 1) (room - m))) = wghK t.kids deep room 1) := hide (by rw [← HT.out, drop_at hku, wghK])
            clear hku
            have Hre3 := hide (hre2.below ((Below.refl B wr).alloc (by omega) (.cells #[.int .i64 op2, .int .i64 n2, .slice A2 l2 c2] 25)))
            clear hre2
            have hbz : B ≤ (wr.alloc (.cells #[.int .i64 op2, .int .i64 n2, .slice A2 l2 c2] 25)).heap.size := by simp; omega
            go_wp2_with fail
            refine (IH.out op2 n2 A2 l2 c2 u (deep + 1) (room - m) _ hbz Hre3.out (by omega) (by omega) (by omega) (by omega)).mono ?_
            rintro e w1 ⟨rfl, hb1⟩
            have hbw1 := below_box hb (Nat.le_refl _) hb1
            generalize wgh u (deep + 1) (room - m) = c at *
            clear hb1 c0 c1 cs Hre3 hbz
            by_cases hov : room < m + c
            · have hovb : decide (room < m + c) = true := by simp [hov]
              have Hf : Hid (wgh t deep room = 1000) := hide (by rw [Hr.out, ← Hst.out, if_pos hov])
              go_wp2_with fail
              go_ret
              exact ⟨ret_int Hf.out.symm, hbw1⟩
            · have hovb : decide (room < m + c) = false := by simp; omega
              have Hon : Hid (wghK (t.kids.drop (k + 1)) deep room (m + c) = wghK t.kids deep room 1) := hide (by rw [← Hst.out, if_neg hov])
              go_wp2_with fail
              go_roundw
              case rel => exact ⟨k + 1, m + c, by omega, by go_num, rfl, by omega, by omega, Hon, hbw1⟩
              case measure => simp [intOf]; omega
          · have hlt' : ¬ ((k : Int) < (len : Int)) := by omega
            have Hf : Hid (wgh t deep room = m) := hide (by rw [Hr.out, ← HT.out, List.drop_of_length_le (by rw [Hlen.out]; omega), wghK])
            go_wp2_with fail
            go_ret
            exact ⟨ret_int Hf.out.symm, hb⟩

def heavyE (t : T) : Int := if 300 < wgh t 0 500 then wgh t 0 500 else 0
set_option maxHeartbeats 400000 in
theorem heavy_any (B d : Nat) (op n : Int) (A : Option Addr) (len cap : Nat) (t : T) (w : World) (hB : B ≤ w.heap.size) (hre : RE w B d op n A len cap t) :
    Calls Tryz.prog 9 #[.agg #[.int .i64 op, .int .i64 n, .slice A len cap]] w fun e w' => e = .returned (.int .i64 (heavyE t)) ∧ Below w.heap.size w w' := by
  have Hre := hide (hre.below ((Below.refl B w).alloc hB (.cells #[.int .i64 op, .int .i64 n, .slice A len cap] 25)))
  clear hre
  have hbz : B ≤ (w.alloc (.cells #[.int .i64 op, .int .i64 n, .slice A len cap] 25)).heap.size := by simp; omega
  have hf : heavyE t = if 300 < wgh t 0 500 then wgh t 0 500 else 0 := rfl
  have Hf := hide hf; clear hf
  go_enter Tryz.func9, Tryz.ntmps9
  go_wp2_with fail
  refine (weigh_any B d op n A len cap t 0 500 _ hbz Hre.out (by omega) (by omega) (by omega) (by omega)).mono ?_
  rintro e w1 ⟨rfl, hb1⟩
  have hbw1 := below_box (Below.refl w.heap.size w) (Nat.le_refl _) hb1
  clear hb1 hbz Hre
  generalize wgh t 0 500 = c at *
  by_cases h : 300 < c
  · have hb : decide (300 < c) = true := by simp [h]
    have Hr : Hid (heavyE t = c) := hide (by rw [Hf.out, if_pos h])
    go_wp2_with fail
    go_ret
    exact ⟨ret_int Hr.out.symm, hbw1⟩
  · have hb : decide (300 < c) = false := by simp; omega
    have Hr : Hid (heavyE t = 0) := hide (by rw [Hf.out, if_neg h])
    go_wp2_with fail
    go_ret
    exact ⟨ret_int Hr.out.symm, hbw1⟩
end Go.Proofs.YtbppdalfcldodaaGreat.Ex
namespace Go.Proofs.YtbppdalfcldodaaGreat.Ex
open Go.RowKit

/- nodes down to the twelfth level, as the program counts them: on top of m, no further than 61 -/
mutual
def kn : T → Int → Int → Int
  | .mk _ _ ks, dep, m => if dep = 12 then m + 1 else knK ks dep (m + 1)
def knK : List T → Int → Int → Int
  | [], _, m => m
  | k :: r, dep, m => if 60 < m then m else knK r dep (kn k (dep + 1) m)
end
/- nodes down to the twelfth level -/
mutual
def sz : T → Int → Int
  | .mk _ _ ks, dep => if dep = 12 then 1 else 1 + szK ks dep
def szK : List T → Int → Int
  | [], _ => 0
  | k :: r, dep => sz k (dep + 1) + szK r dep
end
/- a node below the twelfth level -/
mutual
def dp : T → Int → Bool
  | .mk _ _ ks, dep => if dep = 12 then decide (0 < ks.length) else dpK ks dep
def dpK : List T → Int → Bool
  | [], _ => false
  | k :: r, dep => dp k (dep + 1) || dpK r dep
end
mutual
theorem sz_pos : ∀ (t : T) (dep : Int), 1 ≤ sz t dep
  | .mk o n ks, dep => by
    rw [sz]
    split
    · omega
    · have := szK_pos ks dep; omega
theorem szK_pos : ∀ (ks : List T) (dep : Int), 0 ≤ szK ks dep
  | [], dep => by rw [szK]; omega
  | k :: r, dep => by
    rw [szK]
    have h1 := sz_pos k (dep + 1)
    have h2 := szK_pos r dep
    omega
end
mutual
theorem kn_eq : ∀ (t : T) (dep m : Int), m ≤ 60 → kn t dep m = min (m + sz t dep) 61
  | .mk o n ks, dep, m, h => by
    rw [kn, sz]
    split
    · omega
    · have := szK_pos ks dep
      rw [knK_eq ks dep (m + 1) (by omega)]; omega
theorem knK_eq : ∀ (ks : List T) (dep m : Int), m ≤ 61 → knK ks dep m = min (m + szK ks dep) 61
  | [], dep, m, h => by rw [knK, szK]; omega
  | k :: r, dep, m, h => by
    have h1 := sz_pos k (dep + 1)
    have h2 := szK_pos r dep
    rw [knK, szK]
    split
    · omega
    · have hk := kn_eq k (dep + 1) m (by omega)
      rw [knK_eq r dep _ (by omega), hk]; omega
end
theorem kn_bd (t : T) (dep m : Int) (h : m ≤ 60) : m + 1 ≤ kn t dep m ∧ kn t dep m ≤ 61 := by
  have := sz_pos t dep
  rw [kn_eq t dep m h]; omega
theorem kn_12 (t : T) (m : Int) : kn t 12 m = m + 1 := by cases t; rw [kn, if_pos rfl]
theorem kn_on (t : T) (dep m : Int) (h : ¬ dep = 12) : kn t dep m = knK t.kids dep (m + 1) := by cases t; rw [kn, if_neg h]; rfl
theorem dp_12 (t : T) : dp t 12 = decide (0 < t.kids.length) := by cases t; rw [dp, if_pos rfl]; rfl
theorem dp_on (t : T) (dep : Int) (h : ¬ dep = 12) : dp t dep = dpK t.kids dep := by cases t; rw [dp, if_neg h]; rfl
mutual
theorem cnt_eq : ∀ (t : T) (dep room : Int), 0 ≤ room → (cnt t dep room).1 = min (sz t dep) (room + 1) ∧ ((cnt t dep room).1 ≤ room → (cnt t dep room).2 = dp t dep)
  | .mk o n ks, dep, room, h => by
    rw [cnt, sz, dp]
    split
    · simp; omega
    · have := szK_pos ks dep
      have h2 := cntK_eq ks dep room 1 false (by omega) (by omega)
      refine ⟨by rw [h2.1], fun hr => ?_⟩
      rw [h2.2 hr, Bool.false_or]
theorem cntK_eq : ∀ (ks : List T) (dep room m : Int) (over : Bool), 1 ≤ m → m ≤ room + 1 → (cntK ks dep room m over).1 = min (m + szK ks dep) (room + 1) ∧ ((cntK ks dep room m over).1 ≤ room → (cntK ks dep room m over).2 = (over || dpK ks dep))
  | [], dep, room, m, over, h1, h2 => by
    rw [cntK, szK, dpK]
    simp only [Bool.or_false]
    split <;> simp <;> omega
  | k :: r, dep, room, m, over, h1, h2 => by
    have p1 := sz_pos k (dep + 1)
    have p2 := szK_pos r dep
    rw [cntK, szK, dpK]
    split
    · simp; omega
    · have hk := cnt_eq k (dep + 1) (room - m) (by omega)
      have hr := cntK_eq r dep room (m + (cnt k (dep + 1) (room - m)).1) (over || (cnt k (dep + 1) (room - m)).2) (by omega) (by omega)
      refine ⟨by rw [hr.1, hk.1]; omega, fun hl => ?_⟩
      rw [hr.2 hl]
      have : (cnt k (dep + 1) (room - m)).1 ≤ room - m := by
        have := hr.1; omega
      rw [hk.2 this, Bool.or_assoc]
end
theorem nodesE_eq (t : T) : nodesE t = min (sz t 1) 61 := (cnt_eq t 1 60 (by omega)).1
theorem nodesE_kn (t : T) : nodesE t = kn t 1 0 := by rw [nodesE_eq, kn_eq t 1 0 (by omega)]; omega
theorem fitsB_eq (t : T) : fitsB t = (decide (nodesE t ≤ 60) && !dp t 1) := by
  have h := cnt_eq t 1 60 (by omega)
  unfold fitsB nodesE
  by_cases h1 : (cnt t 1 60).1 ≤ 60
  · rw [h.2 h1]
  · rw [decide_eq_false h1]; rfl
theorem dpK_drop {ks : List T} {k : Nat} {u : T} {dep : Int} (h : ks[k]? = some u) : dpK (ks.drop k) dep = (dp u (dep + 1) || dpK (ks.drop (k + 1)) dep) := by rw [drop_at h, dpK]
end Go.Proofs.YtbppdalfcldodaaGreat.Ex
namespace Go.Proofs.YtbppdalfcldodaaGreat.Ex
open Go.RowKit
set_option linter.unusedSimpArgs false
set_option linter.unusedVariables false

set_option maxHeartbeats 1000000 in
theorem dcount_any (B : Nat) : ∀ (d : Nat) (op n : Int) (A : Option Addr) (len cap : Nat) (t : T) (dep m : Int) (w : World), B ≤ w.heap.size → RE w B d op n A len cap t → 1 ≤ dep → dep ≤ 12 → 0 ≤ m → m ≤ 60 →
    Calls Tryz.prog 157 #[.agg #[.int .i64 op, .int .i64 n, .slice A len cap], .int .i64 dep, .int .i64 m] w fun e w' => e = .returned (.int .i64 (kn t dep m)) ∧ Below w.heap.size w w' := by
  intro d
  induction d with
  | zero => intro op n A len cap t dep m w hB h; exact absurd h id
  | succ d ih =>
    intro op n A len cap t dep m w hB hre hd1 hd2 hm1 hm2
    have IH := hide ih; clear ih
    have Hre := hide hre
    obtain ⟨hx1, hx2, hlen, hcap, hmx, hx6⟩ := hre
    clear hx1 hx2 hx6
    unfold maxLen at hmx
    have Hlen := hide hlen
    clear hlen
    have hbx : Below w.heap.size w (w.alloc (.cells #[.int .i64 op, .int .i64 n, .slice A len cap] 25)) := (Below.refl _ _).alloc (Nat.le_refl _) _
    by_cases h12 : dep = 12
    · subst h12
      have Hc := hide (kn_12 t m)
      have h12b : ((12 : Int) == 12) = true := rfl
      go_enter Tryz.func157, Tryz.ntmps157
      go_wp2_with fail
      go_ret
      exact ⟨ret_int Hc.out.symm, hbx⟩
    · have h12b : (dep == 12) = false := by simp [h12]
      have Hc := hide (kn_on t dep m h12)
      have hd3 : dep ≤ 11 := by omega
      clear h12
      go_enter Tryz.func157, Tryz.ntmps157
      go_wp2_with fail
      go_loopw [2, 17] (fun a i wr => ∃ (k : Nat) (q : Int), k ≤ len ∧ i = .int .i64 k ∧ a = .int .i64 q ∧ 1 ≤ q ∧ q ≤ 61 ∧ Hid (knK (t.kids.drop k) dep q = knK t.kids dep (m + 1)) ∧ Below w.heap.size w wr) (fun _ i _ => len - (intOf i).toNat)
      case atStart => exact ⟨0, m + 1, Nat.zero_le _, rfl, rfl, by omega, by omega, hide rfl, hbx⟩
      case round =>
        obtain ⟨k, q, hk, rfl, rfl, hq1, hq2, HT, hb⟩ := hrel
        have hsz := hb.size
        by_cases hlt : k < len
        · have hlt' : ((k : Int) < (len : Int)) := by omega
          obtain ⟨b, off, u, op2, n2, A2, l2, c2, rfl, hbB, hku, ⟨c0, c1, cs⟩, hre2⟩ := (Hre.out.below (hb.mono hB)).at_ hlt
          by_cases hq : 60 < q
          · have hqb : decide (60 < q) = true := by simp [hq]
            have Hf : Hid (kn t dep m = q) := hide (by rw [Hc.out, ← HT.out, drop_at hku, knK, if_pos hq])
            clear hku hre2
            go_wp2_with fail
            go_ret
            exact ⟨ret_int Hf.out.symm, hb.alloc hsz _⟩
          · have hqb : decide (60 < q) = false := by simp; omega
            have Hon : Hid (knK (t.kids.drop (k + 1)) dep (kn u (dep + 1) q) = knK t.kids dep (m + 1)) := hide (by rw [← HT.out, drop_at hku, knK, if_neg hq])
            obtain ⟨q1, q2⟩ := kn_bd u (dep + 1) q (by omega)
            clear hku
            have Hre3 := hide (hre2.below ((Below.refl B wr).alloc (by omega) (.cells #[.int .i64 op2, .int .i64 n2, .slice A2 l2 c2] 25)))
            clear hre2
            have hbz : B ≤ (wr.alloc (.cells #[.int .i64 op2, .int .i64 n2, .slice A2 l2 c2] 25)).heap.size := by simp; omega
            go_wp2_with fail
            refine (IH.out op2 n2 A2 l2 c2 u (dep + 1) q _ hbz Hre3.out (by omega) (by omega) (by omega) (by omega)).mono ?_
            rintro e w1 ⟨rfl, hb1⟩
            have hbw1 := below_box hb (Nat.le_refl _) hb1
            generalize kn u (dep + 1) q = c at *
            clear hb1 c0 c1 cs Hre3 hbz
            go_wp2_with fail
            go_roundw
            case rel => exact ⟨k + 1, c, by omega, by go_num, rfl, by omega, by omega, Hon, hbw1⟩
            case measure => simp [intOf]; omega
        · have hlt' : ¬ ((k : Int) < (len : Int)) := by omega
          have Hf : Hid (kn t dep m = q) := hide (by rw [Hc.out, ← HT.out, List.drop_of_length_le (by rw [Hlen.out]; omega), knK])
          go_wp2_with fail
          go_ret
          exact ⟨ret_int Hf.out.symm, hb⟩

set_option maxHeartbeats 400000 in
theorem nodes_any (B d : Nat) (op n : Int) (A : Option Addr) (len cap : Nat) (t : T) (w : World) (hB : B ≤ w.heap.size) (hre : RE w B d op n A len cap t) :
    Calls Tryz.prog 144 #[.agg #[.int .i64 op, .int .i64 n, .slice A len cap]] w fun e w' => e = .returned (.int .i64 (nodesE t)) ∧ Below w.heap.size w w' := by
  have Hre := hide (hre.below ((Below.refl B w).alloc hB (.cells #[.int .i64 op, .int .i64 n, .slice A len cap] 25)))
  clear hre
  have hbz : B ≤ (w.alloc (.cells #[.int .i64 op, .int .i64 n, .slice A len cap] 25)).heap.size := by simp; omega
  have Hf := hide (nodesE_kn t)
  obtain ⟨q1, q2⟩ := kn_bd t 1 0 (by omega)
  go_enter Tryz.func144, Tryz.ntmps144
  go_wp2_with fail
  refine (dcount_any B d op n A len cap t 1 0 _ hbz Hre.out (by omega) (by omega) (by omega) (by omega)).mono ?_
  rintro e w1 ⟨rfl, hb1⟩
  have hbw1 := below_box (Below.refl w.heap.size w) (Nat.le_refl _) hb1
  clear hb1 hbz Hre
  generalize kn t 1 0 = c at *
  go_wp2_with fail
  go_ret
  exact ⟨ret_int Hf.out.symm, hbw1⟩

set_option maxHeartbeats 1000000 in
theorem deep_any (B : Nat) : ∀ (d : Nat) (op n : Int) (A : Option Addr) (len cap : Nat) (t : T) (dep : Int) (w : World), B ≤ w.heap.size → RE w B d op n A len cap t → 1 ≤ dep → dep ≤ 12 →
    Calls Tryz.prog 145 #[.agg #[.int .i64 op, .int .i64 n, .slice A len cap], .int .i64 dep] w fun e w' => e = .returned (.bool (dp t dep)) ∧ Below w.heap.size w w' := by
  intro d
  induction d with
  | zero => intro op n A len cap t dep w hB h; exact absurd h id
  | succ d ih =>
    intro op n A len cap t dep w hB hre hd1 hd2
    have IH := hide ih; clear ih
    have Hre := hide hre
    obtain ⟨hx1, hx2, hlen, hcap, hmx, hx6⟩ := hre
    clear hx1 hx2 hx6
    unfold maxLen at hmx
    have Hlen := hide hlen
    clear hlen
    have hbx : Below w.heap.size w (w.alloc (.cells #[.int .i64 op, .int .i64 n, .slice A len cap] 25)) := (Below.refl _ _).alloc (Nat.le_refl _) _
    by_cases h12 : dep = 12
    · subst h12
      have Hc := hide (dp_12 t)
      have hlen0 : decide (0 < t.kids.length) = decide (0 < len) := by rw [Hlen.out]
      have Hc2 := hide (Hc.out.trans hlen0)
      clear Hc hlen0
      have h12b : ((12 : Int) == 12) = true := rfl
      go_enter Tryz.func145, Tryz.ntmps145
      go_wp2_with fail
      go_ret
      exact ⟨ret_bool Hc2.out.symm, hbx⟩
    · have h12b : (dep == 12) = false := by simp [h12]
      have Hc := hide (dp_on t dep h12)
      have hd3 : dep ≤ 11 := by omega
      clear h12
      go_enter Tryz.func145, Tryz.ntmps145
      go_wp2_with fail
      go_loopw [16] (fun i wr => ∃ (k : Nat), k ≤ len ∧ i = .int .i64 k ∧ Hid (dpK (t.kids.drop k) dep = dpK t.kids dep) ∧ Below w.heap.size w wr) (fun i _ => len - (intOf i).toNat)
      case atStart => exact ⟨0, Nat.zero_le _, rfl, hide rfl, hbx⟩
      case round =>
        obtain ⟨k, hk, rfl, HT, hb⟩ := hrel
        have hsz := hb.size
        by_cases hlt : k < len
        · have hlt' : ((k : Int) < (len : Int)) := by omega
          obtain ⟨b, off, u, op2, n2, A2, l2, c2, rfl, hbB, hku, ⟨c0, c1, cs⟩, hre2⟩ := (Hre.out.below (hb.mono hB)).at_ hlt
          have Hon : Hid ((dp u (dep + 1) || dpK (t.kids.drop (k + 1)) dep) = dpK t.kids dep) := hide (by rw [← HT.out, dpK_drop hku])
          clear hku
          have Hre3 := hide (hre2.below ((Below.refl B wr).alloc (by omega) (.cells #[.int .i64 op2, .int .i64 n2, .slice A2 l2 c2] 25)))
          clear hre2
          have hbz : B ≤ (wr.alloc (.cells #[.int .i64 op2, .int .i64 n2, .slice A2 l2 c2] 25)).heap.size := by simp; omega
          go_wp2_with fail
          refine (IH.out op2 n2 A2 l2 c2 u (dep + 1) _ hbz Hre3.out (by omega) (by omega)).mono ?_
          rintro e w1 ⟨rfl, hb1⟩
          have hbw1 := below_box hb (Nat.le_refl _) hb1
          clear hb1 c0 c1 cs Hre3 hbz
          cases hu : dp u (dep + 1)
          · have Hon2 : Hid (dpK (t.kids.drop (k + 1)) dep = dpK t.kids dep) := hide (by rw [← Hon.out, hu]; rfl)
            clear hu
            go_wp2_with fail
            go_roundw
            case rel => exact ⟨k + 1, by omega, by go_num, Hon2, hbw1⟩
            case measure => simp [intOf]; omega
          · have Hf : Hid (dp t dep = true) := hide (by rw [Hc.out, ← Hon.out, hu]; rfl)
            clear hu
            go_wp2_with fail
            go_ret
            exact ⟨ret_bool Hf.out.symm, hbw1⟩
        · have hlt' : ¬ ((k : Int) < (len : Int)) := by omega
          have Hf : Hid (dp t dep = false) := hide (by rw [Hc.out, ← HT.out, List.drop_of_length_le (by rw [Hlen.out]; omega), dpK])
          go_wp2_with fail
          go_ret
          exact ⟨ret_bool Hf.out.symm, hb⟩

set_option maxHeartbeats 400000 in
theorem fits_any (B d : Nat) (op n : Int) (A : Option Addr) (len cap : Nat) (t : T) (w : World) (hB : B ≤ w.heap.size) (hre : RE w B d op n A len cap t) :
    Calls Tryz.prog 115 #[.agg #[.int .i64 op, .int .i64 n, .slice A len cap]] w fun e w' => e = .returned (.bool (fitsB t)) ∧ Below w.heap.size w w' := by
  have Hre := hide (hre.below ((Below.refl B w).alloc hB (.cells #[.int .i64 op, .int .i64 n, .slice A len cap] 25)))
  clear hre
  have hbz : B ≤ (w.alloc (.cells #[.int .i64 op, .int .i64 n, .slice A len cap] 25)).heap.size := by simp; omega
  have Hbox := hide (box_new w op n A len cap 25)
  have Hf := hide (fitsB_eq t)
  go_enter Tryz.func115, Tryz.ntmps115
  go_wp2_with fail
  refine (nodes_any B d op n A len cap t _ hbz Hre.out).mono ?_
  rintro e w1 ⟨rfl, hb1⟩
  have hz1 := hb1.size
  have hbw1 := below_box (Below.refl w.heap.size w) (Nat.le_refl _) hb1
  obtain ⟨d0, d1, d2⟩ := Hbox.out.below hb1 (by simp)
  have Hre1 := hide (Hre.out.below (hb1.mono hbz))
  have hbz1 : B ≤ w1.heap.size := by omega
  clear hb1 hbz Hre Hbox
  cases h1 : decide (nodesE t ≤ 60)
  · have Hr : Hid (fitsB t = false) := hide (by rw [Hf.out, h1]; rfl)
    go_wp2_with fail
    go_ret
    exact ⟨ret_bool Hr.out.symm, hbw1⟩
  · have Hr : Hid (fitsB t = !dp t 1) := hide (by rw [Hf.out, h1]; rfl)
    go_wp2_with fail
    refine (deep_any B d op n A len cap t 1 _ hbz1 Hre1.out (by omega) (by omega)).mono ?_
    rintro e w2 ⟨rfl, hb2⟩
    have hbw2 := hbw1.trans (hb2.mono hbw1.size)
    clear hb2 d0 d1 d2
    go_wp2_with fail
    go_ret
    exact ⟨ret_bool Hr.out.symm, hbw2⟩
end Go.Proofs.YtbppdalfcldodaaGreat.Ex
namespace Go.Proofs.YtbppdalfcldodaaGreat.Ex
open Go.RowKit
set_option linter.unusedSimpArgs false
set_option linter.unusedVariables false

set_option maxHeartbeats 1000000 in
theorem kids_any (op : Int) (w : World) : Calls Tryz.prog 146 #[.int .i64 op] w fun e w' => e = .returned (.int .i64 (kidsOf op)) ∧ w = w' := by
  by_cases hr : 1 ≤ op ∧ op ≤ 15
  · have h : op = 1 ∨ op = 2 ∨ op = 3 ∨ op = 4 ∨ op = 5 ∨ op = 6 ∨ op = 7 ∨ op = 8 ∨ op = 9 ∨ op = 10 ∨ op = 11 ∨ op = 12 ∨ op = 13 ∨ op = 14 ∨ op = 15 := by omega
    clear hr
    rcases h with rfl | rfl | rfl | rfl | rfl | rfl | rfl | rfl | rfl | rfl | rfl | rfl | rfl | rfl | rfl
    all_goals
      go_enter Tryz.func146, Tryz.ntmps146
      go_wp2_with fail
      go_ret
      exact ⟨rfl, rfl⟩
  · have hk : kidsOf op = -1 := by
      unfold kidsOf
      rw [if_neg (by omega), if_neg (by omega), if_neg (by omega), if_neg (by omega)]
    have e1 : (op == 1) = false := by rw [beq_eq_false_iff_ne]; omega
    have e2 : (op == 2) = false := by rw [beq_eq_false_iff_ne]; omega
    have e3 : (op == 3) = false := by rw [beq_eq_false_iff_ne]; omega
    have e4 : (op == 4) = false := by rw [beq_eq_false_iff_ne]; omega
    have e5 : (op == 5) = false := by rw [beq_eq_false_iff_ne]; omega
    have e6 : (op == 6) = false := by rw [beq_eq_false_iff_ne]; omega
    have e7 : (op == 7) = false := by rw [beq_eq_false_iff_ne]; omega
    have e8 : (op == 8) = false := by rw [beq_eq_false_iff_ne]; omega
    have e9 : (op == 9) = false := by rw [beq_eq_false_iff_ne]; omega
    have e10 : (op == 10) = false := by rw [beq_eq_false_iff_ne]; omega
    have e11 : (op == 11) = false := by rw [beq_eq_false_iff_ne]; omega
    have e12 : (op == 12) = false := by rw [beq_eq_false_iff_ne]; omega
    have e13 : (op == 13) = false := by rw [beq_eq_false_iff_ne]; omega
    have e14 : (op == 14) = false := by rw [beq_eq_false_iff_ne]; omega
    have e15 : (op == 15) = false := by rw [beq_eq_false_iff_ne]; omega
    rw [hk]
    clear hk hr
    go_enter Tryz.func146, Tryz.ntmps146
    go_wp2_with fail
    go_ret
    exact ⟨rfl, rfl⟩

set_option maxHeartbeats 1000000 in
theorem number_any (op n : Int) (w : World) : Calls Tryz.prog 147 #[.int .i64 op, .int .i64 n] w fun e w' => e = .returned (.bool (nodeN op n)) ∧ w = w' := by
  have hnn : nodeN op n = if op = 1 then decide (-1000 ≤ n ∧ n ≤ 1000) else if op = 2 then decide (n = 0 ∨ n = 1) else if op = 3 ∨ op = 4 then decide (0 ≤ n ∧ n < 6) else decide (n = 0) := rfl
  by_cases o1 : op = 1
  · have o1b : (op == 1) = true := by simp [o1]
    rw [if_pos o1] at hnn
    rw [Bool.decide_and] at hnn
    cases n1 : decide (-1000 ≤ n) <;> cases n2 : decide (n ≤ 1000)
    all_goals
      simp only [n1, n2, Bool.and_true, Bool.true_and, Bool.and_false, Bool.false_and] at hnn
      have Hr2 := hide hnn
      clear hnn o1
      go_enter Tryz.func147, Tryz.ntmps147
      go_wp2_with fail
      go_ret
      exact ⟨ret_bool Hr2.out.symm, rfl⟩
  · have o1b : (op == 1) = false := by simp [o1]
    rw [if_neg o1] at hnn
    by_cases o2 : op = 2
    · have o2b : (op == 2) = true := by simp [o2]
      rw [if_pos o2] at hnn
      by_cases n1 : n = 0
      · have n1b : (n == 0) = true := by simp [n1]
        have Hr2 : Hid (nodeN op n = true) := hide (hnn.trans (by simp [n1]))
        clear hnn o1 o2 n1
        go_enter Tryz.func147, Tryz.ntmps147
        go_wp2_with fail
        go_ret
        exact ⟨ret_bool Hr2.out.symm, rfl⟩
      · have n1b : (n == 0) = false := by simp [n1]
        by_cases n2 : n = 1
        · have n2b : (n == 1) = true := by simp [n2]
          have Hr2 : Hid (nodeN op n = true) := hide (hnn.trans (by simp [n2]))
          clear hnn o1 o2 n1 n2
          go_enter Tryz.func147, Tryz.ntmps147
          go_wp2_with fail
          go_ret
          exact ⟨ret_bool Hr2.out.symm, rfl⟩
        · have n2b : (n == 1) = false := by simp [n2]
          have Hr2 : Hid (nodeN op n = false) := hide (hnn.trans (by simp [n1, n2]))
          clear hnn o1 o2 n1 n2
          go_enter Tryz.func147, Tryz.ntmps147
          go_wp2_with fail
          go_ret
          exact ⟨ret_bool Hr2.out.symm, rfl⟩
    · have o2b : (op == 2) = false := by simp [o2]
      rw [if_neg o2] at hnn
      by_cases o3 : op = 3 ∨ op = 4
      · rw [if_pos o3] at hnn
        have o3b : (op == 3) = true ∨ ((op == 3) = false ∧ (op == 4) = true) := by
          by_cases h : op = 3
          · exact .inl (by simp [h])
          · exact .inr ⟨by simp [h], by rcases o3 with h' | h' <;> simp_all⟩
        rw [Bool.decide_and] at hnn
        cases n1 : decide (0 ≤ n) <;> cases n2 : decide (n < 6)
        all_goals
          simp only [n1, n2, Bool.and_true, Bool.true_and, Bool.and_false, Bool.false_and] at hnn
          have Hr2 := hide hnn
          clear hnn o1 o2 o3
          rcases o3b with o3b | ⟨o3b, o4b⟩
          all_goals
            go_enter Tryz.func147, Tryz.ntmps147
            go_wp2_with fail
            go_ret
            exact ⟨ret_bool Hr2.out.symm, rfl⟩
      · rw [if_neg o3] at hnn
        have o3b : (op == 3) = false := by simp; exact fun h => o3 (.inl h)
        have o4b : (op == 4) = false := by simp; exact fun h => o3 (.inr h)
        have Hr2 := hide hnn
        have hnb : (n == 0) = decide (n = 0) := by by_cases h : n = 0 <;> simp [h]
        rw [← hnb] at Hr2
        clear hnn o1 o2 o3 hnb
        go_enter Tryz.func147, Tryz.ntmps147
        go_wp2_with fail
        go_ret
        exact ⟨ret_bool Hr2.out.symm, rfl⟩

theorem nodeB_eq (op n : Int) (len : Nat) : nodeB op n len = (decide ((len : Int) = kidsOf op) && nodeN op n) := by
  show (decide (0 ≤ kidsOf op ∧ (len : Int) = kidsOf op) && nodeN op n) = _
  congr 1
  exact decide_eq_decide.2 ⟨fun h => h.2, fun h => ⟨by omega, h⟩⟩

set_option maxHeartbeats 1000000 in
theorem valid_any (B : Nat) : ∀ (d : Nat) (op n : Int) (A : Option Addr) (len cap : Nat) (t : T) (w : World), B ≤ w.heap.size → RE w B d op n A len cap t →
    Calls Tryz.prog 116 #[.agg #[.int .i64 op, .int .i64 n, .slice A len cap]] w fun e w' => e = .returned (.bool (sound t)) ∧ Below w.heap.size w w' := by
  intro d
  induction d with
  | zero => intro op n A len cap t w hB h; exact absurd h id
  | succ d ih =>
    intro op n A len cap t w hB hre
    have IH := hide ih; clear ih
    have Hre := hide hre
    obtain ⟨hx1, hx2, hlen, hcap, hmx, hx6⟩ := hre
    unfold maxLen at hmx
    have Hlen := hide hlen
    have Hs : Hid (sound t = (decide ((len : Int) = kidsOf op) && nodeN op n && soundK t.kids)) := hide (by rw [sound_eq, hx1, hx2, hlen, nodeB_eq])
    clear hlen hx1 hx2 hx6
    have hbx : Below w.heap.size w (w.alloc (.cells #[.int .i64 op, .int .i64 n, .slice A len cap] 25)) := (Below.refl _ _).alloc (Nat.le_refl _) _
    generalize hk : kidsOf op = kk at *
    have Hk := hide hk; clear hk
    generalize hnn : nodeN op n = nn at *
    have Hn := hide hnn; clear hnn
    by_cases k1 : (len : Int) = kk
    · have k1b : ((len : Int) != kk) = false := by simp [k1]
      cases nn
      · have Hr : Hid (sound t = false) := hide (by rw [Hs.out]; simp)
        clear k1
        go_enter Tryz.func116, Tryz.ntmps116
        go_wp2_with fail
        go_quiet (first | (go_at_call 146; exact Calls.quiet_of_same ((kids_any op _).mono (fun e w' h => ⟨by rw [h.1, Hk.out], h.2.symm⟩))) | (go_at_call 147; exact Calls.quiet_of_same ((number_any op n _).mono (fun e w' h => ⟨by rw [h.1, Hn.out], h.2.symm⟩))))
        go_wp2_with fail
        go_ret
        exact ⟨ret_bool Hr.out.symm, below_drewN hbx _⟩
      · have Hr : Hid (sound t = soundK t.kids) := hide (by rw [Hs.out, k1]; simp)
        clear k1
        go_enter Tryz.func116, Tryz.ntmps116
        go_wp2_with fail
        go_quiet (first | (go_at_call 146; exact Calls.quiet_of_same ((kids_any op _).mono (fun e w' h => ⟨by rw [h.1, Hk.out], h.2.symm⟩))) | (go_at_call 147; exact Calls.quiet_of_same ((number_any op n _).mono (fun e w' h => ⟨by rw [h.1, Hn.out], h.2.symm⟩))))
        go_wp2_with fail
        go_loopw [23] (fun i wr => ∃ (k : Nat), k ≤ len ∧ i = .int .i64 k ∧ Hid (soundK (t.kids.drop k) = soundK t.kids) ∧ Below w.heap.size w wr) (fun i _ => len - (intOf i).toNat)
        case atStart => exact ⟨0, Nat.zero_le _, rfl, hide rfl, below_drewN hbx _⟩
        case round =>
          obtain ⟨k, hk, rfl, HT, hb⟩ := hrel
          have hsz := hb.size
          by_cases hlt : k < len
          · have hlt' : ((k : Int) < (len : Int)) := by omega
            obtain ⟨b, off, u, op2, n2, A2, l2, c2, rfl, hbB, hku, ⟨c0, c1, cs⟩, hre2⟩ := (Hre.out.below (hb.mono hB)).at_ hlt
            have Hst : Hid ((sound u && soundK (t.kids.drop (k + 1))) = soundK t.kids) := hide (by rw [← HT.out, drop_at hku, soundK])
            clear hku
            have Hre3 := hide (hre2.below ((Below.refl B wr).alloc (by omega) (.cells #[.int .i64 op2, .int .i64 n2, .slice A2 l2 c2] 25)))
            clear hre2
            have hbz : B ≤ (wr.alloc (.cells #[.int .i64 op2, .int .i64 n2, .slice A2 l2 c2] 25)).heap.size := by simp; omega
            go_wp2_with fail
            refine (IH.out op2 n2 A2 l2 c2 u _ hbz Hre3.out).mono ?_
            rintro e w2 ⟨rfl, hb2⟩
            have hbw2 := below_box hb (Nat.le_refl _) hb2
            clear hb2 c0 c1 cs Hre3 hbz
            cases hu : sound u
            · have Hf : Hid (sound t = false) := hide (by rw [Hr.out, ← Hst.out, hu]; rfl)
              clear hu
              go_wp2_with fail
              go_ret
              exact ⟨ret_bool Hf.out.symm, hbw2⟩
            · have Hon : Hid (soundK (t.kids.drop (k + 1)) = soundK t.kids) := hide (by rw [← Hst.out, hu]; rfl)
              clear hu
              go_wp2_with fail
              go_roundw
              case rel => exact ⟨k + 1, by omega, by go_num, Hon, hbw2⟩
              case measure => simp [intOf]; omega
          · have hlt' : ¬ ((k : Int) < (len : Int)) := by omega
            have Hf : Hid (sound t = true) := hide (by rw [Hr.out, ← HT.out, List.drop_of_length_le (by rw [Hlen.out]; omega), soundK])
            go_wp2_with fail
            go_ret
            exact ⟨ret_bool Hf.out.symm, hb⟩
    · have k1b : ((len : Int) != kk) = true := by simp [k1]
      have Hr : Hid (sound t = false) := hide (by rw [Hs.out, decide_eq_false k1]; rfl)
      clear k1
      go_enter Tryz.func116, Tryz.ntmps116
      go_wp2_with fail
      go_quiet (first | (go_at_call 146; exact Calls.quiet_of_same ((kids_any op _).mono (fun e w' h => ⟨by rw [h.1, Hk.out], h.2.symm⟩))) | (go_at_call 147; exact Calls.quiet_of_same ((number_any op n _).mono (fun e w' h => ⟨by rw [h.1, Hn.out], h.2.symm⟩))))
      go_wp2_with fail
      go_ret
      exact ⟨ret_bool Hr.out.symm, below_drewN hbx _⟩

set_option maxHeartbeats 400000 in
theorem may_any (B d : Nat) (op n : Int) (A : Option Addr) (len cap : Nat) (t : T) (w : World) (hB : B ≤ w.heap.size) (hre : RE w B d op n A len cap t) :
    Calls Tryz.prog 96 #[.agg #[.int .i64 op, .int .i64 n, .slice A len cap]] w fun e w' => e = .returned (.int .i64 (mayE t)) ∧ Below w.heap.size w w' := by
  have Hre := hide (hre.below ((Below.refl B w).alloc hB (.cells #[.int .i64 op, .int .i64 n, .slice A len cap] 25)))
  clear hre
  have hbz : B ≤ (w.alloc (.cells #[.int .i64 op, .int .i64 n, .slice A len cap] 25)).heap.size := by simp; omega
  have Hbox := hide (box_new w op n A len cap 25)
  go_enter Tryz.func96, Tryz.ntmps96
  go_wp2_with fail
  refine (fits_any B d op n A len cap t _ hbz Hre.out).mono ?_
  rintro e w1 ⟨rfl, hb1⟩
  have hz1 := hb1.size
  have hbw1 := below_box (Below.refl w.heap.size w) (Nat.le_refl _) hb1
  obtain ⟨d0, d1, d2⟩ := Hbox.out.below hb1 (by simp)
  have Hre1 := hide (Hre.out.below (hb1.mono hbz))
  have hbz1 : B ≤ w1.heap.size := by omega
  clear hb1 hbz Hre Hbox
  cases hf : fitsB t
  · have Hr : Hid (mayE t = 7) := hide (by unfold mayE; rw [hf]; rfl)
    go_wp2_with fail
    go_ret
    exact ⟨ret_int Hr.out.symm, hbw1⟩
  · go_wp2_with fail
    refine (valid_any B d op n A len cap t _ hbz1 Hre1.out).mono ?_
    rintro e w2 ⟨rfl, hb2⟩
    have hbw2 := hbw1.trans (hb2.mono hbw1.size)
    clear hb2 d0 d1 d2
    cases hs : sound t
    · have Hr : Hid (mayE t = 1) := hide (by unfold mayE; rw [hf, hs]; rfl)
      go_wp2_with fail
      go_ret
      exact ⟨ret_int Hr.out.symm, hbw2⟩
    · have Hr : Hid (mayE t = 0) := hide (by unfold mayE; rw [hf, hs]; rfl)
      go_wp2_with fail
      go_ret
      exact ⟨ret_int Hr.out.symm, hbw2⟩
end Go.Proofs.YtbppdalfcldodaaGreat.Ex
namespace Go.Proofs.YtbppdalfcldodaaGreat.Ex
open Go.RowKit
open Go.Sort (grow)
set_option linter.unusedSimpArgs false
set_option linter.unusedVariables false

mutual
def sameT : T → T → Bool
  | .mk o n ks, u => (o == u.op) && (n == u.n) && sameK ks u.kids
def sameK : List T → List T → Bool
  | [], [] => true
  | a :: r, b :: s => sameT a b && sameK r s
  | [], _ :: _ => false
  | _ :: _, [] => false
end
theorem sameT_eq (t u : T) : sameT t u = ((t.op == u.op) && (t.n == u.n) && sameK t.kids u.kids) := by cases t; rw [sameT]; rfl
theorem sameK_len : ∀ (a b : List T), a.length ≠ b.length → sameK a b = false
  | [], [], h => absurd rfl h
  | [], _ :: _, _ => by rw [sameK]
  | _ :: _, [], _ => by rw [sameK]
  | a :: r, b :: s, h => by rw [sameK, sameK_len r s (by simpa using h), Bool.and_false]
theorem two_box (w : World) (op n : Int) (A : Option Addr) (len cap : Nat) (op2 n2 : Int) (A2 : Option Addr) (len2 cap2 : Nat) :
    Box3 ((w.alloc (.cells #[.int .i64 op, .int .i64 n, .slice A len cap] 25)).alloc (.cells #[.int .i64 op2, .int .i64 n2, .slice A2 len2 cap2] 25)) w.heap.size op n A len cap ∧
    Box3 ((w.alloc (.cells #[.int .i64 op, .int .i64 n, .slice A len cap] 25)).alloc (.cells #[.int .i64 op2, .int .i64 n2, .slice A2 len2 cap2] 25)) (w.heap.size + 1) op2 n2 A2 len2 cap2 := by
  refine ⟨(box_new w op n A len cap 25).below ((Below.refl (w.heap.size + 1) _).alloc (by simp) _) (by omega), ?_⟩
  have := box_new (w.alloc (.cells #[.int .i64 op, .int .i64 n, .slice A len cap] 25)) op2 n2 A2 len2 cap2 25
  simpa using this

def sameE (t u : T) : Bool := fitsB t && fitsB u && sameT t u
end Go.Proofs.YtbppdalfcldodaaGreat.Ex
namespace Go.Proofs.YtbppdalfcldodaaGreat.Ex
open Go.RowKit
open Go.Sort (grow)
set_option linter.unusedSimpArgs false
set_option linter.unusedVariables false

set_option maxHeartbeats 1000000 in
theorem equal_any (B : Nat) : ∀ (d : Nat) (op n : Int) (A : Option Addr) (len cap : Nat) (t : T) (d2 : Nat) (op2 n2 : Int) (A2 : Option Addr) (len2 cap2 : Nat) (t2 : T) (w : World), B ≤ w.heap.size → RE w B d op n A len cap t → RE w B d2 op2 n2 A2 len2 cap2 t2 →
    Calls Tryz.prog 158 #[.agg #[.int .i64 op, .int .i64 n, .slice A len cap], .agg #[.int .i64 op2, .int .i64 n2, .slice A2 len2 cap2]] w fun e w' => e = .returned (.bool (sameT t t2)) ∧ Below w.heap.size w w' := by
  intro d
  induction d with
  | zero => intro op n A len cap t d2 op2 n2 A2 len2 cap2 t2 w hB h; exact absurd h id
  | succ d ih =>
    intro op n A len cap t d2 op2 n2 A2 len2 cap2 t2 w hB hre hre2
    match d2, hre2 with
    | 0, hre2 => exact absurd hre2 id
    | d2 + 1, hre2 =>
      have IH := hide ih; clear ih
      have Hre := hide hre
      have Hre2 := hide hre2
      obtain ⟨hx1, hx2, hlen, hcap, hmx, hx6⟩ := hre
      obtain ⟨hy1, hy2, hlen2, hcap2, hmx2, hy6⟩ := hre2
      unfold maxLen at hmx hmx2
      have Hlen := hide hlen
      have Hlen2 := hide hlen2
      have Hs : Hid (sameT t t2 = ((op == op2) && (n == n2) && sameK t.kids t2.kids)) := hide (by rw [sameT_eq, hx1, hx2, hy1, hy2])
      clear hlen hx1 hx2 hx6 hlen2 hy1 hy2 hy6
      have hbx : Below w.heap.size w ((w.alloc (.cells #[.int .i64 op, .int .i64 n, .slice A len cap] 25)).alloc (.cells #[.int .i64 op2, .int .i64 n2, .slice A2 len2 cap2] 25)) := ((Below.refl _ _).alloc (Nat.le_refl _) _).alloc (by simp) _
      obtain ⟨bx1, bx2⟩ := two_box w op n A len cap op2 n2 A2 len2 cap2
      have Hbx1 := hide bx1
      have Hbx2 := hide bx2
      clear bx1 bx2
      cases ho : op == op2
      · have Hr : Hid (sameT t t2 = false) := hide (by rw [Hs.out, ho]; rfl)
        have ho' : (op != op2) = true := by simp [bne, ho]
        clear ho
        go_enter Tryz.func158, Tryz.ntmps158
        go_wp2_with fail
        go_ret
        exact ⟨ret_bool Hr.out.symm, hbx⟩
      · have ho' : (op != op2) = false := by simp [bne, ho]
        cases hn : n == n2
        · have Hr : Hid (sameT t t2 = false) := hide (by rw [Hs.out, ho, hn]; rfl)
          have hn' : (n != n2) = true := by simp [bne, hn]
          clear hn ho
          go_enter Tryz.func158, Tryz.ntmps158
          go_wp2_with fail
          go_ret
          exact ⟨ret_bool Hr.out.symm, hbx⟩
        · have hn' : (n != n2) = false := by simp [bne, hn]
          have Hr1 : Hid (sameT t t2 = sameK t.kids t2.kids) := hide (by rw [Hs.out, ho, hn]; rfl)
          clear hn ho
          by_cases hl : len = len2
          · subst hl
            have hl' : ((len : Int) != (len : Int)) = false := by simp
            go_enter Tryz.func158, Tryz.ntmps158
            go_wp2_with fail
            generalize hw2 : (w.alloc (.cells #[.int .i64 op, .int .i64 n, .slice A len cap] 25)).alloc (.cells #[.int .i64 op2, .int .i64 n2, .slice A2 len cap2] 25) = w2 at *
            have hz2 : w.heap.size + 2 ≤ w2.heap.size := by rw [← hw2]; simp
            clear hw2
            go_loopw [31] (fun i wr => ∃ (k : Nat), k ≤ len ∧ i = .int .i64 k ∧ Hid (sameK (t.kids.drop k) (t2.kids.drop k) = sameK t.kids t2.kids) ∧ Below w2.heap.size w2 wr) (fun i _ => len - (intOf i).toNat)
            case atStart => exact ⟨0, Nat.zero_le _, rfl, hide rfl, Below.refl _ _⟩
            case round =>
              obtain ⟨k, hk, rfl, HT, hb⟩ := hrel
              have hsz := hb.size
              have hbw := hbx.trans (hb.mono (by omega))
              by_cases hlt : k < len
              · have hlt' : ((k : Int) < (len : Int)) := by omega
                obtain ⟨b, off, u, uo, un, uA, ul, uc, rfl, hbB, hku, ⟨c0, c1, cs⟩, hru⟩ := (Hre.out.below (hbw.mono hB)).at_ hlt
                obtain ⟨b2, off2, v, vo, vn, vA, vl, vc, rfl, hbB2, hkv, ⟨e0, e1, es⟩, hrv⟩ := (Hre2.out.below (hbw.mono hB)).at_ hlt
                have Hst : Hid ((sameT u v && sameK (t.kids.drop (k + 1)) (t2.kids.drop (k + 1))) = sameK t.kids t2.kids) := hide (by rw [← HT.out, drop_at hku, drop_at hkv, sameK])
                clear hku hkv
                have Hru := hide hru
                have Hrv := hide hrv
                clear hru hrv
                obtain ⟨_, _, g2⟩ := Hbx2.out.below hb (by omega)
                have hbn : Below wr.heap.size wr (wr.alloc (.cells #[.int .i64 uo, .int .i64 un, .slice uA ul uc] 25)) := (Below.refl _ _).alloc (Nat.le_refl _) _
                obtain ⟨c3, c4, c5⟩ := box_new wr uo un uA ul uc 25
                have C0 := cell_regrown c3
                have C1 := cell_regrown c4
                have C2 := cell_regrown c5
                have E0 := cell_regrown ((hbn.cell (p := ⟨b2, off2 + k * 3, none⟩) (by show b2 < wr.heap.size; omega)).trans e0)
                have E1 := cell_regrown ((hbn.cell (p := ⟨b2, off2 + k * 3 + 1, none⟩) (by show b2 < wr.heap.size; omega)).trans e1)
                have E2 := cell_regrown ((hbn.cell (p := ⟨b2, off2 + k * 3 + 2, none⟩) (by show b2 < wr.heap.size; omega)).trans es)
                have G2 := cell_regrown ((hbn.cell (p := ⟨w.heap.size + 1, 2, none⟩) (by show w.heap.size + 1 < wr.heap.size; omega)).trans g2)
                have Hbn := hide hbn
                have hzn : (wr.alloc (.cells #[.int .i64 uo, .int .i64 un, .slice uA ul uc] 25)).heap.size = wr.heap.size + 1 := by simp
                clear hbn c3 c4 c5 e0 e1 es g2
                go_wp2_with fail
                clear c0 c1 cs
                generalize wr.alloc (.cells #[.int .i64 uo, .int .i64 un, .slice uA ul uc] 25) = wn at *
                have Hcall : Hid (∀ (dd : Nat) (os : Array Obj), Calls Tryz.prog 158 #[.agg #[.int .i64 uo, .int .i64 un, .slice uA ul uc], .agg #[.int .i64 vo, .int .i64 vn, .slice vA vl vc]] (grow (redrawn wn dd) os) fun e w' => e = .returned (.bool (sameT u v)) ∧ Below (grow (redrawn wn dd) os).heap.size (grow (redrawn wn dd) os) w') :=
                  hide (fun dd os => IH.out uo un uA ul uc u d2 vo vn vA vl vc v _ (Nat.le_trans (by omega) (below_regrown wn dd os).size) (Hru.out.below ((Hbn.out.mono (by omega)).trans ((below_regrown wn dd os).mono (by omega)))) (Hrv.out.below ((Hbn.out.mono (by omega)).trans ((below_regrown wn dd os).mono (by omega)))))
                refine wp_region_quiet_below (by kernel_rfl) (by kernel_rfl) ?_
                repeat (go_big_quiet_step ((go_at_call 158; exact Calls.regrown_of (Hcall.out _ _))))
                refine wpQuiet_nil ?_
                intro w3 hw3
                obtain ⟨p, hp⟩ := hw3
                have hb3 : Below wr.heap.size wr w3 := by rw [hp]; exact Hbn.out.trans ((below_regrown wn p.d p.os).mono (by omega))
                have hbj := hb.trans (hb3.mono hsz)
                have hbw3 := hbw.trans (hb3.mono (by omega))
                clear hp hb3 C0 C1 C2 E0 E1 E2 G2 Hcall
                cases hu : sameT u v
                · have Hf : Hid (sameT t t2 = false) := hide (by rw [Hr1.out, ← Hst.out, hu]; rfl)
                  clear hu
                  go_wp2_with fail
                  go_ret
                  exact ⟨ret_bool Hf.out.symm, hbw3⟩
                · have Hon : Hid (sameK (t.kids.drop (k + 1)) (t2.kids.drop (k + 1)) = sameK t.kids t2.kids) := hide (by rw [← Hst.out, hu]; rfl)
                  clear hu
                  go_wp2_with fail
                  go_roundw
                  case rel => exact ⟨k + 1, by omega, by go_num, Hon, hbj⟩
                  case measure => simp [intOf]; omega
              · have hlt' : ¬ ((k : Int) < (len : Int)) := by omega
                have Hf : Hid (sameT t t2 = true) := hide (by rw [Hr1.out, ← HT.out, List.drop_of_length_le (by rw [Hlen.out]; omega), List.drop_of_length_le (by rw [Hlen2.out]; omega), sameK])
                go_wp2_with fail
                go_ret
                exact ⟨ret_bool Hf.out.symm, hbw⟩
          · have hl' : ((len : Int) != (len2 : Int)) = true := by simp; omega
            have Hr : Hid (sameT t t2 = false) := hide (by rw [Hr1.out, sameK_len _ _ (by rw [Hlen.out, Hlen2.out]; exact hl)])
            clear hl
            go_enter Tryz.func158, Tryz.ntmps158
            go_wp2_with fail
            go_ret
            exact ⟨ret_bool Hr.out.symm, hbx⟩

set_option maxHeartbeats 1000000 in
theorem same_any (B d : Nat) (op n : Int) (A : Option Addr) (len cap : Nat) (t : T) (d2 : Nat) (op2 n2 : Int) (A2 : Option Addr) (len2 cap2 : Nat) (t2 : T) (w : World) (hB : B ≤ w.heap.size) (hre : RE w B d op n A len cap t) (hre2 : RE w B d2 op2 n2 A2 len2 cap2 t2) :
    Calls Tryz.prog 149 #[.agg #[.int .i64 op, .int .i64 n, .slice A len cap], .agg #[.int .i64 op2, .int .i64 n2, .slice A2 len2 cap2]] w fun e w' => e = .returned (.bool (sameE t t2)) ∧ Below w.heap.size w w' := by
  have hbx : Below w.heap.size w ((w.alloc (.cells #[.int .i64 op, .int .i64 n, .slice A len cap] 25)).alloc (.cells #[.int .i64 op2, .int .i64 n2, .slice A2 len2 cap2] 25)) := ((Below.refl _ _).alloc (Nat.le_refl _) _).alloc (by simp) _
  obtain ⟨bx1, bx2⟩ := two_box w op n A len cap op2 n2 A2 len2 cap2
  have hz0 : w.heap.size + 2 ≤ ((w.alloc (.cells #[.int .i64 op, .int .i64 n, .slice A len cap] 25)).alloc (.cells #[.int .i64 op2, .int .i64 n2, .slice A2 len2 cap2] 25)).heap.size := by simp
  have Hre := hide (hre.below (hbx.mono hB))
  have Hre2 := hide (hre2.below (hbx.mono hB))
  have Hbx1 := hide bx1
  have Hbx2 := hide bx2
  clear hre hre2 bx1 bx2
  have Hs : Hid (sameE t t2 = (fitsB t && fitsB t2 && sameT t t2)) := hide rfl
  go_enter Tryz.func149, Tryz.ntmps149
  go_wp2_with fail
  generalize (w.alloc (.cells #[.int .i64 op, .int .i64 n, .slice A len cap] 25)).alloc (.cells #[.int .i64 op2, .int .i64 n2, .slice A2 len2 cap2] 25) = w2 at *
  refine (fits_any B d op n A len cap t _ (by omega) Hre.out).mono ?_
  rintro e w3 ⟨rfl, hb3⟩
  have hz3 := hb3.size
  have hbw3 := hbx.trans (hb3.mono (by omega))
  obtain ⟨a0, a1, a2⟩ := Hbx1.out.below hb3 (by omega)
  obtain ⟨b0, b1, b2⟩ := Hbx2.out.below hb3 (by omega)
  have Hre3 := hide (Hre.out.below (hb3.mono (by omega)))
  have Hre23 := hide (Hre2.out.below (hb3.mono (by omega)))
  have Hc1 := hide (Hbx1.out.below hb3 (by omega))
  have Hc2 := hide (Hbx2.out.below hb3 (by omega))
  clear hb3 Hre Hre2 Hbx1 Hbx2
  cases hf : fitsB t
  · have Hr : Hid (sameE t t2 = false) := hide (by rw [Hs.out, hf]; rfl)
    go_wp2_with fail
    go_ret
    exact ⟨ret_bool Hr.out.symm, hbw3⟩
  · go_wp2_with fail
    refine (fits_any B d2 op2 n2 A2 len2 cap2 t2 _ (by omega) Hre23.out).mono ?_
    rintro e w4 ⟨rfl, hb4⟩
    have hz4 := hb4.size
    have hbw4 := hbw3.trans (hb4.mono (by omega))
    clear a0 a1 a2 b0 b1 b2
    obtain ⟨a0, a1, a2⟩ := Hc1.out.below hb4 (by omega)
    obtain ⟨b0, b1, b2⟩ := Hc2.out.below hb4 (by omega)
    have Hre4 := hide (Hre3.out.below (hb4.mono (by omega)))
    have Hre24 := hide (Hre23.out.below (hb4.mono (by omega)))
    clear hb4 Hre3 Hre23 Hc1 Hc2
    cases hf2 : fitsB t2
    · have Hr : Hid (sameE t t2 = false) := hide (by rw [Hs.out, hf, hf2]; rfl)
      go_wp2_with fail
      go_ret
      exact ⟨ret_bool Hr.out.symm, hbw4⟩
    · have Hr : Hid (sameE t t2 = sameT t t2) := hide (by rw [Hs.out, hf, hf2]; rfl)
      go_wp2_with fail
      refine (equal_any B d op n A len cap t d2 op2 n2 A2 len2 cap2 t2 _ (by omega) Hre4.out Hre24.out).mono ?_
      rintro e w5 ⟨rfl, hb5⟩
      have hbw5 := hbw4.trans (hb5.mono (by omega))
      go_wp2_with fail
      go_ret
      exact ⟨ret_bool Hr.out.symm, hbw5⟩
end Go.Proofs.YtbppdalfcldodaaGreat.Ex
