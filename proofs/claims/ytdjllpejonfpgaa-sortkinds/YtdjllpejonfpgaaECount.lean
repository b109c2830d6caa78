/- The walk of the reference's count. -/
import Derived.Test.YtdjllpejonfpgaaProg
import Derived.Test.YtdjllpejonfpgaaEWords
import Derived.WalkSpells
import Derived.WalkLawsBesides
import Derived.Deep.QuietTactic
import Derived.BigQuiet
import Derived.Lib.QuietBelow
import Derived.IntWalk
namespace Go.Proofs.Ytdjllpejonfpgaa.Ex
open Go.RowKit
set_option linter.unusedSimpArgs false
set_option linter.unusedVariables false

set_option maxHeartbeats 1000000 in
theorem count_any (B : Nat) : ∀ (d : Nat) (op n : Int) (A : Option Addr) (len cap : Nat) (t : T) (deep room : Int) (w : World), B ≤ w.heap.size → RE w B d op n A len cap t → 1 ≤ deep → deep ≤ 12 → 0 ≤ room → room ≤ 1000 →
    Calls Try.prog 40 #[.agg #[.int .i64 op, .int .i64 n, .slice A len cap], .int .i64 deep, .int .i64 room] w fun e w' => e = .returned (.tuple #[.int .i64 (cnt t deep room).1, .bool (cnt t deep room).2]) ∧ Below w.heap.size w w' := by
  intro d
  induction d with
  | zero => intro op n A len cap t deep room w hB h; exact absurd h id
  | succ d ih =>
    intro op n A len cap t deep room w hB hre hd1 hd2 hr1 hr2
    have IH := hide ih; clear ih
    have Hre := hide hre
    obtain ⟨hx1, hx2, hlen, hcap, hmx, hx6⟩ := hre
    clear hx1 hx2 hx6
    unfold maxLen at hmx
    have Hlen := hide hlen
    clear hlen
    by_cases h12 : deep = 12
    · subst h12
      have Hc := hide (cnt_12 t room)
      rw [Hc.out]
      have hlen0 : decide (0 < t.kids.length) = decide (0 < len) := by rw [Hlen.out]
      rw [hlen0]
      have h12b : ((12 : Int) == 12) = true := rfl
      clear hlen0 Hc
      go_enter Try.func40, Try.ntmps40
      go_wp2_with fail
      go_quiet (fail)
      go_wp2_with fail
      go_ret2
      exact ⟨rfl, below_drewN ((Below.refl _ _).alloc (Nat.le_refl _) _) _⟩
    · have h12b : (deep == 12) = false := by simp [h12]
      have Hc := hide (cnt_on t deep room h12)
      rw [Hc.out]
      have hd3 : deep ≤ 11 := by omega
      clear h12 Hc
      go_enter Try.func40, Try.ntmps40
      go_wp2_with fail
      have hbx : Below w.heap.size w (w.alloc (.cells #[.int .i64 op, .int .i64 n, .slice A len cap] 25)) := (Below.refl _ _).alloc (Nat.le_refl _) _
      go_loopw [8, 9, 23] (fun a b i wr => ∃ (k : Nat) (m : Int) (over : Bool), k ≤ len ∧ i = .int .i64 k ∧ a = .int .i64 m ∧ b = .bool over ∧ 1 ≤ m ∧ m ≤ room + 1 ∧ Hid (cntK (t.kids.drop k) deep room m over = cntK t.kids deep room 1 false) ∧ Below w.heap.size w wr) (fun _ _ i _ => len - (intOf i).toNat)
      case atStart => exact ⟨0, 1, false, Nat.zero_le _, rfl, rfl, rfl, by omega, by omega, hide rfl, hbx⟩
      case round =>
        obtain ⟨k, m, over, hk, rfl, rfl, rfl, hm1, hm2, HT, hb⟩ := hrel
        have hsz := hb.size
        by_cases hlt : k < len
        · have hlt' : ((k : Int) < (len : Int)) := by omega
          obtain ⟨b, off, u, op2, n2, A2, l2, c2, rfl, hbB, hku, ⟨c0, c1, cs⟩, hre2⟩ := (Hre.out.below (hb.mono hB)).at_ hlt
          have Hku := hide hku; clear hku
          have Hre2 := hide hre2; clear hre2
          by_cases hmr : room < m
          · have hmrb : decide (room < m) = true := by simp [hmr]
            have Hfin := hide (HT.out.symm.trans (cntK_full Hku.out hmr))
            go_wp2_with fail
            go_ret2
            refine ⟨?_, hb.alloc hsz _⟩
            rw [Hfin.out]; rfl
          · have hmrb : decide (room < m) = false := by simp; omega
            have Hon := hide ((cntK_step Hku.out hmr).symm.trans HT.out)
            obtain ⟨q1, q2⟩ := cnt_bd u (deep + 1) (room - m) (by omega)
            have hre3 := Hre2.out.below ((Below.refl B wr).alloc (by omega) (.cells #[.int .i64 op2, .int .i64 n2, .slice A2 l2 c2] 25))
            have Hre3 := hide hre3; clear hre3
            have hbz : B ≤ (wr.alloc (.cells #[.int .i64 op2, .int .i64 n2, .slice A2 l2 c2] 25)).heap.size := by simp; omega
            by_cases hdd : deep + 1 ≤ 12
            · go_wp2_with fail
              refine (IH.out op2 n2 A2 l2 c2 u (deep + 1) (room - m) _ hbz Hre3.out (by omega) (by omega) (by omega) (by omega)).mono ?_
              rintro e w1 ⟨rfl, hb1⟩
              have hbw1 := below_box hb (Nat.le_refl _) hb1
              generalize cnt u (deep + 1) (room - m) = c at *
              obtain ⟨cn, co⟩ := c
              clear hb1 c0 c1 cs Hre3 hbz
              simp only at q1 q2 Hon ⊢
              cases over
              · go_wp2_with fail
                go_roundw
                case rel => exact ⟨k + 1, m + cn, co, by omega, by go_num, rfl, rfl, by omega, by omega, Hon, hbw1⟩
                case measure => simp [intOf]; omega
              · go_wp2_with fail
                go_roundw
                case rel => exact ⟨k + 1, m + cn, true, by omega, by go_num, rfl, rfl, by omega, by omega, Hon, hbw1⟩
                case measure => simp [intOf]; omega
            · omega
        · have hlt' : ¬ ((k : Int) < (len : Int)) := by omega
          have Hfin := hide (HT.out.symm.trans (cntK_end (by rw [Hlen.out]; omega)))
          go_wp2_with fail
          go_ret2
          refine ⟨?_, hb⟩
          rw [Hfin.out, if_neg (by omega)]; rfl
end Go.Proofs.Ytdjllpejonfpgaa.Ex
