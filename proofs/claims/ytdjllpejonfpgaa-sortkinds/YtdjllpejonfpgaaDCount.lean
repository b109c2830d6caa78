/- The walks of the program's count, Nodes, isDeep, fits. -/
import Derived.Test.YtdjllpejonfpgaaDMath
namespace Go.Proofs.Ytdjllpejonfpgaa.Ex
open Go.RowKit
set_option linter.unusedSimpArgs false
set_option linter.unusedVariables false

set_option maxHeartbeats 1000000 in
theorem dcount_any (B : Nat) : ∀ (d : Nat) (op n : Int) (A : Option Addr) (len cap : Nat) (t : T) (dep m : Int) (w : World), B ≤ w.heap.size → RE w B d op n A len cap t → 1 ≤ dep → dep ≤ 12 → 0 ≤ m → m ≤ 60 →
    Calls Try.prog 51 #[.agg #[.int .i64 op, .int .i64 n, .slice A len cap], .int .i64 dep, .int .i64 m] w fun e w' => e = .returned (.int .i64 (kn t dep m)) ∧ Below w.heap.size w w' := by
  intro d
  induction d with
  | zero => intro op n A len cap t dep m w hB h; exact absurd h id
  | succ d ih =>
    intro op n A len cap t dep m w hB hre hd1 hd2 hm1 hm2
    have IH := hide ih; clear ih
    have Hre := hide hre
    obtain ⟨hx1, hx2, hlen, hcap, hmx, hx6⟩ := hre
    clear hx1 hx2 hx6
    unfold maxLen at hmx
    have Hlen := hide hlen
    clear hlen
    have hbx : Below w.heap.size w (w.alloc (.cells #[.int .i64 op, .int .i64 n, .slice A len cap] 25)) := (Below.refl _ _).alloc (Nat.le_refl _) _
    by_cases h12 : dep = 12
    · subst h12
      have Hc := hide (kn_12 t m)
      have h12b : ((12 : Int) == 12) = true := rfl
      go_enter Try.func51, Try.ntmps51
      go_wp2_with fail
      go_ret
      exact ⟨ret_int Hc.out.symm, hbx⟩
    · have h12b : (dep == 12) = false := by simp [h12]
      have Hc := hide (kn_on t dep m h12)
      have hd3 : dep ≤ 11 := by omega
      clear h12
      go_enter Try.func51, Try.ntmps51
      go_wp2_with fail
      go_loopw [2, 17] (fun a i wr => ∃ (k : Nat) (q : Int), k ≤ len ∧ i = .int .i64 k ∧ a = .int .i64 q ∧ 1 ≤ q ∧ q ≤ 61 ∧ Hid (knK (t.kids.drop k) dep q = knK t.kids dep (m + 1)) ∧ Below w.heap.size w wr) (fun _ i _ => len - (intOf i).toNat)
      case atStart => exact ⟨0, m + 1, Nat.zero_le _, rfl, rfl, by omega, by omega, hide rfl, hbx⟩
      case round =>
        obtain ⟨k, q, hk, rfl, rfl, hq1, hq2, HT, hb⟩ := hrel
        have hsz := hb.size
        by_cases hlt : k < len
        · have hlt' : ((k : Int) < (len : Int)) := by omega
          obtain ⟨b, off, u, op2, n2, A2, l2, c2, rfl, hbB, hku, ⟨c0, c1, cs⟩, hre2⟩ := (Hre.out.below (hb.mono hB)).at_ hlt
          by_cases hq : 60 < q
          · have hqb : decide (60 < q) = true := by simp [hq]
            have Hf : Hid (kn t dep m = q) := hide (by rw [Hc.out, ← HT.out, drop_at hku, knK, if_pos hq])
            clear hku hre2
            go_wp2_with fail
            go_ret
            exact ⟨ret_int Hf.out.symm, hb.alloc hsz _⟩
          · have hqb : decide (60 < q) = false := by simp; omega
            have Hon : Hid (knK (t.kids.drop (k + 1)) dep (kn u (dep + 1) q) = knK t.kids dep (m + 1)) := hide (by rw [← HT.out, drop_at hku, knK, if_neg hq])
            obtain ⟨q1, q2⟩ := kn_bd u (dep + 1) q (by omega)
            clear hku
            have Hre3 := hide (hre2.below ((Below.refl B wr).alloc (by omega) (.cells #[.int .i64 op2, .int .i64 n2, .slice A2 l2 c2] 25)))
            clear hre2
            have hbz : B ≤ (wr.alloc (.cells #[.int .i64 op2, .int .i64 n2, .slice A2 l2 c2] 25)).heap.size := by simp; omega
            go_wp2_with fail
            refine (IH.out op2 n2 A2 l2 c2 u (dep + 1) q _ hbz Hre3.out (by omega) (by omega) (by omega) (by omega)).mono ?_
            rintro e w1 ⟨rfl, hb1⟩
            have hbw1 := below_box hb (Nat.le_refl _) hb1
            generalize kn u (dep + 1) q = c at *
            clear hb1 c0 c1 cs Hre3 hbz
            go_wp2_with fail
            go_roundw
            case rel => exact ⟨k + 1, c, by omega, by go_num, rfl, by omega, by omega, Hon, hbw1⟩
            case measure => simp [intOf]; omega
        · have hlt' : ¬ ((k : Int) < (len : Int)) := by omega
          have Hf : Hid (kn t dep m = q) := hide (by rw [Hc.out, ← HT.out, List.drop_of_length_le (by rw [Hlen.out]; omega), knK])
          go_wp2_with fail
          go_ret
          exact ⟨ret_int Hf.out.symm, hb⟩

set_option maxHeartbeats 400000 in
theorem nodes_any (B d : Nat) (op n : Int) (A : Option Addr) (len cap : Nat) (t : T) (w : World) (hB : B ≤ w.heap.size) (hre : RE w B d op n A len cap t) :
    Calls Try.prog 47 #[.agg #[.int .i64 op, .int .i64 n, .slice A len cap]] w fun e w' => e = .returned (.int .i64 (nodesE t)) ∧ Below w.heap.size w w' := by
  have Hre := hide (hre.below ((Below.refl B w).alloc hB (.cells #[.int .i64 op, .int .i64 n, .slice A len cap] 25)))
  clear hre
  have hbz : B ≤ (w.alloc (.cells #[.int .i64 op, .int .i64 n, .slice A len cap] 25)).heap.size := by simp; omega
  have Hf := hide (nodesE_kn t)
  obtain ⟨q1, q2⟩ := kn_bd t 1 0 (by omega)
  go_enter Try.func47, Try.ntmps47
  go_wp2_with fail
  refine (dcount_any B d op n A len cap t 1 0 _ hbz Hre.out (by omega) (by omega) (by omega) (by omega)).mono ?_
  rintro e w1 ⟨rfl, hb1⟩
  have hbw1 := below_box (Below.refl w.heap.size w) (Nat.le_refl _) hb1
  clear hb1 hbz Hre
  generalize kn t 1 0 = c at *
  go_wp2_with fail
  go_ret
  exact ⟨ret_int Hf.out.symm, hbw1⟩

set_option maxHeartbeats 1000000 in
theorem deep_any (B : Nat) : ∀ (d : Nat) (op n : Int) (A : Option Addr) (len cap : Nat) (t : T) (dep : Int) (w : World), B ≤ w.heap.size → RE w B d op n A len cap t → 1 ≤ dep → dep ≤ 12 →
    Calls Try.prog 48 #[.agg #[.int .i64 op, .int .i64 n, .slice A len cap], .int .i64 dep] w fun e w' => e = .returned (.bool (dp t dep)) ∧ Below w.heap.size w w' := by
  intro d
  induction d with
  | zero => intro op n A len cap t dep w hB h; exact absurd h id
  | succ d ih =>
    intro op n A len cap t dep w hB hre hd1 hd2
    have IH := hide ih; clear ih
    have Hre := hide hre
    obtain ⟨hx1, hx2, hlen, hcap, hmx, hx6⟩ := hre
    clear hx1 hx2 hx6
    unfold maxLen at hmx
    have Hlen := hide hlen
    clear hlen
    have hbx : Below w.heap.size w (w.alloc (.cells #[.int .i64 op, .int .i64 n, .slice A len cap] 25)) := (Below.refl _ _).alloc (Nat.le_refl _) _
    by_cases h12 : dep = 12
    · subst h12
      have Hc := hide (dp_12 t)
      have hlen0 : decide (0 < t.kids.length) = decide (0 < len) := by rw [Hlen.out]
      have Hc2 := hide (Hc.out.trans hlen0)
      clear Hc hlen0
      have h12b : ((12 : Int) == 12) = true := rfl
      go_enter Try.func48, Try.ntmps48
      go_wp2_with fail
      go_ret
      exact ⟨ret_bool Hc2.out.symm, hbx⟩
    · have h12b : (dep == 12) = false := by simp [h12]
      have Hc := hide (dp_on t dep h12)
      have hd3 : dep ≤ 11 := by omega
      clear h12
      go_enter Try.func48, Try.ntmps48
      go_wp2_with fail
      go_loopw [16] (fun i wr => ∃ (k : Nat), k ≤ len ∧ i = .int .i64 k ∧ Hid (dpK (t.kids.drop k) dep = dpK t.kids dep) ∧ Below w.heap.size w wr) (fun i _ => len - (intOf i).toNat)
      case atStart => exact ⟨0, Nat.zero_le _, rfl, hide rfl, hbx⟩
      case round =>
        obtain ⟨k, hk, rfl, HT, hb⟩ := hrel
        have hsz := hb.size
        by_cases hlt : k < len
        · have hlt' : ((k : Int) < (len : Int)) := by omega
          obtain ⟨b, off, u, op2, n2, A2, l2, c2, rfl, hbB, hku, ⟨c0, c1, cs⟩, hre2⟩ := (Hre.out.below (hb.mono hB)).at_ hlt
          have Hon : Hid ((dp u (dep + 1) || dpK (t.kids.drop (k + 1)) dep) = dpK t.kids dep) := hide (by rw [← HT.out, dpK_drop hku])
          clear hku
          have Hre3 := hide (hre2.below ((Below.refl B wr).alloc (by omega) (.cells #[.int .i64 op2, .int .i64 n2, .slice A2 l2 c2] 25)))
          clear hre2
          have hbz : B ≤ (wr.alloc (.cells #[.int .i64 op2, .int .i64 n2, .slice A2 l2 c2] 25)).heap.size := by simp; omega
          go_wp2_with fail
          refine (IH.out op2 n2 A2 l2 c2 u (dep + 1) _ hbz Hre3.out (by omega) (by omega)).mono ?_
          rintro e w1 ⟨rfl, hb1⟩
          have hbw1 := below_box hb (Nat.le_refl _) hb1
          clear hb1 c0 c1 cs Hre3 hbz
          cases hu : dp u (dep + 1)
          · have Hon2 : Hid (dpK (t.kids.drop (k + 1)) dep = dpK t.kids dep) := hide (by rw [← Hon.out, hu]; rfl)
            clear hu
            go_wp2_with fail
            go_roundw
            case rel => exact ⟨k + 1, by omega, by go_num, Hon2, hbw1⟩
            case measure => simp [intOf]; omega
          · have Hf : Hid (dp t dep = true) := hide (by rw [Hc.out, ← Hon.out, hu]; rfl)
            clear hu
            go_wp2_with fail
            go_ret
            exact ⟨ret_bool Hf.out.symm, hbw1⟩
        · have hlt' : ¬ ((k : Int) < (len : Int)) := by omega
          have Hf : Hid (dp t dep = false) := hide (by rw [Hc.out, ← HT.out, List.drop_of_length_le (by rw [Hlen.out]; omega), dpK])
          go_wp2_with fail
          go_ret
          exact ⟨ret_bool Hf.out.symm, hb⟩

set_option maxHeartbeats 400000 in
theorem fits_any (B d : Nat) (op n : Int) (A : Option Addr) (len cap : Nat) (t : T) (w : World) (hB : B ≤ w.heap.size) (hre : RE w B d op n A len cap t) :
    Calls Try.prog 36 #[.agg #[.int .i64 op, .int .i64 n, .slice A len cap]] w fun e w' => e = .returned (.bool (fitsB t)) ∧ Below w.heap.size w w' := by
  have Hre := hide (hre.below ((Below.refl B w).alloc hB (.cells #[.int .i64 op, .int .i64 n, .slice A len cap] 25)))
  clear hre
  have hbz : B ≤ (w.alloc (.cells #[.int .i64 op, .int .i64 n, .slice A len cap] 25)).heap.size := by simp; omega
  have Hbox := hide (box_new w op n A len cap 25)
  have Hf := hide (fitsB_eq t)
  go_enter Try.func36, Try.ntmps36
  go_wp2_with fail
  refine (nodes_any B d op n A len cap t _ hbz Hre.out).mono ?_
  rintro e w1 ⟨rfl, hb1⟩
  have hz1 := hb1.size
  have hbw1 := below_box (Below.refl w.heap.size w) (Nat.le_refl _) hb1
  obtain ⟨d0, d1, d2⟩ := Hbox.out.below hb1 (by simp)
  have Hre1 := hide (Hre.out.below (hb1.mono hbz))
  have hbz1 : B ≤ w1.heap.size := by omega
  clear hb1 hbz Hre Hbox
  cases h1 : decide (nodesE t ≤ 60)
  · have Hr : Hid (fitsB t = false) := hide (by rw [Hf.out, h1]; rfl)
    go_wp2_with fail
    go_ret
    exact ⟨ret_bool Hr.out.symm, hbw1⟩
  · have Hr : Hid (fitsB t = !dp t 1) := hide (by rw [Hf.out, h1]; rfl)
    go_wp2_with fail
    refine (deep_any B d op n A len cap t 1 _ hbz1 Hre1.out (by omega) (by omega)).mono ?_
    rintro e w2 ⟨rfl, hb2⟩
    have hbw2 := hbw1.trans (hb2.mono hbw1.size)
    clear hb2 d0 d1 d2
    go_wp2_with fail
    go_ret
    exact ⟨ret_bool Hr.out.symm, hbw2⟩
end Go.Proofs.Ytdjllpejonfpgaa.Ex
