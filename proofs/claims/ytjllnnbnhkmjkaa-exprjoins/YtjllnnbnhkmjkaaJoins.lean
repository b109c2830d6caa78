/- The walk of the statement ExprJoins. -/
import Derived.Test.YtjllnnbnhkmjkaaLCalls
namespace Go.Proofs.Ytjllnnbnhkmjkaa
open Go.RowKit
open Go.Sort (grow)
set_option linter.unusedSimpArgs false
set_option linter.unusedVariables false

def joinT (t u : T) : T := .mk 6 0 [t, u]
theorem join_sound {t u : T} (h1 : sound t = true) (h2 : sound u = true) : sound (joinT t u) = true := by
  unfold joinT
  rw [sound, soundK, soundK, soundK, h1, h2]
  show (nodeB 6 0 2 && (true && (true && true))) = true
  decide
theorem join_fz (t u : T) : fz (joinT t u) = fz t + fz u + 1 := by
  unfold joinT
  rw [fz, fzK, fzK, fzK]; omega
theorem join_may {t u : T} (h1 : mayE t = 0) (h2 : mayE u = 0) : mayE (joinT t u) = 0 ∨ mayE (joinT t u) = 7 := by
  have hs := join_sound ((may_iff t).1 h1).2 ((may_iff u).1 h2).2
  cases hf : fitsB (joinT t u)
  · exact .inr ((may_full _).2 hf)
  · exact .inl ((may_iff _).2 ⟨hf, hs⟩)
theorem join_nodes {t u : T} (h1 : mayE t = 0) (h2 : mayE u = 0) (h : mayE (joinT t u) = 0) : nodesE (joinT t u) = nodesE t + nodesE u + 1 := by
  rw [nodes_fit ((may_iff _).1 h).1, nodes_fit ((may_iff _).1 h1).1, nodes_fit ((may_iff _).1 h2).1, join_fz]
theorem join_over {t u : T} (h1 : mayE t = 0) (h2 : mayE u = 0) (h : 60 < nodesE t + nodesE u + 1) : mayE (joinT t u) = 7 := by
  rcases join_may h1 h2 with h0 | h7
  · have := join_nodes h1 h2 h0
    have h3 := (fits_iff _).1 ((may_iff _).1 h0).1
    rw [nodes_fit ((may_iff _).1 h0).1] at this
    omega
  · exact h7
theorem nodes_bd (t : T) : 1 ≤ nodesE t ∧ nodesE t ≤ 61 := by
  have := sz_pos t 1
  rw [nodesE_eq]; omega

def joinCells (op n : Int) (A : Option Addr) (len cap : Nat) (op2 n2 : Int) (A2 : Option Addr) (len2 cap2 : Nat) : Array Value := #[.int .i64 op, .int .i64 n, .slice A len cap, .int .i64 op2, .int .i64 n2, .slice A2 len2 cap2]
theorem join_re {w : World} {B d : Nat} {op n : Int} {A : Option Addr} {len cap : Nat} {t : T} {d2 : Nat} {op2 n2 : Int} {A2 : Option Addr} {len2 cap2 : Nat} {t2 : T} (hB : B ≤ w.heap.size) (h1 : RE w B d op n A len cap t) (h2 : RE w B d2 op2 n2 A2 len2 cap2 t2) :
    RE (w.alloc (.cells (joinCells op n A len cap op2 n2 A2 len2 cap2) 24)) (w.heap.size + 1) (d + d2 + 1) 6 0 (some ⟨w.heap.size, 0, none⟩) 2 2 (joinT t t2) := by
  have hb : Below w.heap.size w (w.alloc (.cells (joinCells op n A len cap op2 n2 A2 len2 cap2) 24)) := (Below.refl _ _).alloc (Nat.le_refl _) _
  have k1 := RE.more (B' := w.heap.size + 1) (by omega) _ _ _ _ _ _ _ ((h1.below (hb.mono hB)).ups d2)
  have k2 := RE.more (B' := w.heap.size + 1) (by omega) _ _ _ _ _ _ _ ((h2.below (hb.mono hB)).ups d)
  rw [Nat.add_comm d2 d] at k2
  refine RE.node rfl (by omega) (by unfold maxLen; omega) (by omega) (fun k u hu => ?_)
  match k, hu with
  | 0, hu => simp at hu; subst hu; exact ⟨_, _, _, _, _, by simp [CellE, go_sem, joinCells], k1⟩
  | 1, hu => simp at hu; subst hu; exact ⟨_, _, _, _, _, by simp [CellE, go_sem, joinCells], k2⟩
  | k + 2, hu => simp at hu

set_option maxRecDepth 100000 in
set_option maxHeartbeats 4000000 in
theorem joins_any (B d : Nat) (op n : Int) (A : Option Addr) (len cap : Nat) (t : T) (d2 : Nat) (op2 n2 : Int) (A2 : Option Addr) (len2 cap2 : Nat) (t2 : T) (w : World) (hB : B ≤ w.heap.size) (hre : RE w B d op n A len cap t) (hre2 : RE w B d2 op2 n2 A2 len2 cap2 t2) :
    Calls Try.prog 7 #[.agg #[.int .i64 op, .int .i64 n, .slice A len cap], .agg #[.int .i64 op2, .int .i64 n2, .slice A2 len2 cap2]] w fun e w' => e = .returned (.bool true) ∧ Below w.heap.size w w' := by
  have hbx : Below w.heap.size w ((w.alloc (.cells #[.int .i64 op, .int .i64 n, .slice A len cap] 24)).alloc (.cells #[.int .i64 op2, .int .i64 n2, .slice A2 len2 cap2] 24)) := ((Below.refl _ _).alloc (Nat.le_refl _) _).alloc (by simp) _
  obtain ⟨bx1, bx2⟩ := two_box w op n A len cap op2 n2 A2 len2 cap2
  have hz0 : w.heap.size + 2 ≤ ((w.alloc (.cells #[.int .i64 op, .int .i64 n, .slice A len cap] 24)).alloc (.cells #[.int .i64 op2, .int .i64 n2, .slice A2 len2 cap2] 24)).heap.size := by simp
  have Hre := hide (hre.below (hbx.mono hB))
  have Hre2 := hide (hre2.below (hbx.mono hB))
  have Hbx1 := hide bx1
  have Hbx2 := hide bx2
  have Hbx := hide hbx
  clear hre hre2 bx1 bx2 hbx
  obtain ⟨h1a, h1b⟩ := heavy_bd t
  obtain ⟨h2a, h2b⟩ := heavy_bd t2
  by_cases hgood : ¬ 0 < heavyE t + heavyE t2 ∧ mayE t = 0 ∧ mayE t2 = 0
  · obtain ⟨g1, g2, g3⟩ := hgood
    have hhb : decide (0 < heavyE t + heavyE t2) = false := by simp; omega
    have m1 : (mayE t != 0) = false := by simp [g2]
    have m2 : (mayE t2 != 0) = false := by simp [g3]
    have Hj0 := hide (join_may g2 g3)
    have Hj1 := hide (join_nodes g2 g3)
    have Hj2 := hide (join_over g2 g3)
    clear g1 g2 g3
    go_enter Try.func7, Try.ntmps7
    go_wp2_with fail
    generalize (w.alloc (.cells #[.int .i64 op, .int .i64 n, .slice A len cap] 24)).alloc (.cells #[.int .i64 op2, .int .i64 n2, .slice A2 len2 cap2] 24) = W at *
    have hBW : B ≤ W.heap.size := by omega
    have C0 := cell_regrown Hbx1.out.1
    have C1 := cell_regrown Hbx1.out.2.1
    have C2 := cell_regrown Hbx1.out.2.2
    have E0 := cell_regrown Hbx2.out.1
    have E1 := cell_regrown Hbx2.out.2.1
    have E2 := cell_regrown Hbx2.out.2.2
    refine wp_region_quiet_below (by kernel_rfl) (by kernel_rfl) ?_
    repeat (go_big_quiet_step (first | (go_at_call 9; exact q_heavy hBW (by assumption)) | (go_at_call 11; exact q_may hBW (by assumption))))
    refine wpQuiet_nil ?_
    intro w3 hw3
    obtain ⟨p, hp⟩ := hw3
    have hb3 : Below W.heap.size W w3 := by rw [hp]; exact below_regrown W p.d p.os
    have hz3 := hb3.size
    have Hbx' := hide (Hbx.out.trans (hb3.mono (by omega)))
    have Hre' := hide (Hre.out.below (hb3.mono hBW))
    have Hre2' := hide (Hre2.out.below (hb3.mono hBW))
    have Hbx1' := hide (Hbx1.out.below hb3 (by omega))
    have Hbx2' := hide (Hbx2.out.below hb3 (by omega))
    have hz4 : w.heap.size + 2 ≤ w3.heap.size := by omega
    clear hp hb3 C0 C1 C2 E0 E1 E2 Hbx Hre Hre2 Hbx1 Hbx2 hBW hz3 hz0 W hhb m1 m2 h1a h1b h2a h2b
    have hBW : B ≤ w3.heap.size := by omega
    have hrj := join_re hBW Hre'.out Hre2'.out
    unfold joinCells at hrj
    obtain ⟨a0, a1, a2⟩ := Hbx1'.out
    obtain ⟨b0, b1, b2⟩ := Hbx2'.out
    have hb4 : Below w3.heap.size w3 ((w3.alloc (.cells #[.int .i64 op, .int .i64 n, .slice A len cap, .int .i64 op2, .int .i64 n2, .slice A2 len2 cap2] 24)).alloc (.cells #[.int .i64 6, .int .i64 0, .slice (some ⟨w3.heap.size, 0, none⟩) 2 2] 24)) := ((Below.refl _ _).alloc (Nat.le_refl _) _).alloc (by simp) _
    have Hrj := hide (hrj.below ((Below.refl (w3.heap.size + 1) (w3.alloc (.cells #[.int .i64 op, .int .i64 n, .slice A len cap, .int .i64 op2, .int .i64 n2, .slice A2 len2 cap2] 24))).alloc (by simp) (.cells #[.int .i64 6, .int .i64 0, .slice (some ⟨w3.heap.size, 0, none⟩) 2 2] 24)))
    have hbj := box_new (w3.alloc (.cells #[.int .i64 op, .int .i64 n, .slice A len cap, .int .i64 op2, .int .i64 n2, .slice A2 len2 cap2] 24)) 6 0 (some ⟨w3.heap.size, 0, none⟩) 2 2 24
    have hzA : (w3.alloc (.cells #[.int .i64 op, .int .i64 n, .slice A len cap, .int .i64 op2, .int .i64 n2, .slice A2 len2 cap2] 24)).heap.size = w3.heap.size + 1 := by simp
    have hzB : ((w3.alloc (.cells #[.int .i64 op, .int .i64 n, .slice A len cap, .int .i64 op2, .int .i64 n2, .slice A2 len2 cap2] 24)).alloc (.cells #[.int .i64 6, .int .i64 0, .slice (some ⟨w3.heap.size, 0, none⟩) 2 2] 24)).heap.size = w3.heap.size + 2 := by simp
    rw [hzA] at hbj
    have Hbj := hide hbj
    have Hb4 := hide hb4
    clear hrj hbj hb4 hzA
    go_wp2_with fail
    clear a0 a1 a2 b0 b1 b2
    generalize (w3.alloc (.cells #[.int .i64 op, .int .i64 n, .slice A len cap, .int .i64 op2, .int .i64 n2, .slice A2 len2 cap2] 24)).alloc (.cells #[.int .i64 6, .int .i64 0, .slice (some ⟨w3.heap.size, 0, none⟩) 2 2] 24) = W4 at *
    have Hre4 := hide (Hre'.out.below (Hb4.out.mono hBW))
    have Hre24 := hide (Hre2'.out.below (Hb4.out.mono hBW))
    have hBW4 : B ≤ W4.heap.size := by omega
    have Hbx14 := Hbx1'.out.below Hb4.out (by omega)
    have Hbx24 := Hbx2'.out.below Hb4.out (by omega)
    have Hbw4 := hide (Hbx'.out.trans (Hb4.out.mono (by omega)))
    clear Hre' Hre2' Hbx1' Hbx2' Hbx' Hb4
    have C0 := cell_regrown Hbx14.1
    have C1 := cell_regrown Hbx14.2.1
    have C2 := cell_regrown Hbx14.2.2
    have E0 := cell_regrown Hbx24.1
    have E1 := cell_regrown Hbx24.2.1
    have E2 := cell_regrown Hbx24.2.2
    obtain ⟨n1a, n1b⟩ := nodes_bd t
    obtain ⟨n2a, n2b⟩ := nodes_bd t2
    refine wp_region_quiet_below (by kernel_rfl) (by kernel_rfl) ?_
    repeat (go_big_quiet_step ((go_at_call 15; exact q_nodes hBW4 (by assumption))))
    refine wpQuiet_nil ?_
    intro w5 hw5
    obtain ⟨p, hp⟩ := hw5
    have hb5 : Below W4.heap.size W4 w5 := by rw [hp]; exact below_regrown W4 p.d p.os
    have hz5 := hb5.size
    have Hbw5 := hide (Hbw4.out.trans (hb5.mono (by omega)))
    have Hrj5 := hide (Hrj.out.below (hb5.mono (by omega)))
    obtain ⟨d0, d1, d2'⟩ := Hbj.out.below hb5 (by omega)
    have Hbj5 := hide (Hbj.out.below hb5 (by omega))
    clear hp hb5 C0 C1 C2 E0 E1 E2 Hbx14 Hbx24 Hre4 Hre24 Hbj Hrj Hbw4
    go_wp2_with fail
    refine (may_any (w3.heap.size + 1) _ 6 0 _ 2 2 (joinT t t2) w5 (by omega) Hrj5.out).mono ?_
    rintro e w6 ⟨rfl, hb6⟩
    have hz6 := hb6.size
    have Hbw6 := hide (Hbw5.out.trans (hb6.mono (by omega)))
    have Hrj6 := hide (Hrj5.out.below (hb6.mono (by omega)))
    clear d0 d1 d2'
    obtain ⟨d0, d1, d2'⟩ := Hbj5.out.below hb6 (by omega)
    clear hb6 Hrj5 Hbw5 Hbj5
    generalize nodesE t + nodesE t2 = N at *
    by_cases hN : 60 < N + 1
    · have hNb : decide (60 < N + 1) = true := by simp [hN]
      rw [Hj2.out hN]
      go_wp2_with fail
      refine (awake_any _).mono ?_
      rintro e w7 ⟨rfl, hb7⟩
      have Hf := hide (Hbw6.out.trans (hb7.mono (by omega)))
      clear hb7
      go_wp2_with fail
      go_ret
      exact ⟨rfl, Hf.out⟩
    · have hNb : decide (60 < N + 1) = false := by simp; omega
      rcases Hj0.out with h0 | h7
      · have Hn := hide (Hj1.out h0)
        rw [h0]
        go_wp2_with fail
        refine (nodes_any (w3.heap.size + 1) _ 6 0 _ 2 2 (joinT t t2) w6 (by omega) Hrj6.out).mono ?_
        rintro e w7 ⟨rfl, hb7⟩
        rw [Hn.out]
        have hz7 := hb7.size
        have Hbw7 := hide (Hbw6.out.trans (hb7.mono (by omega)))
        clear hb7 d0 d1 d2'
        go_wp2_with fail
        refine (awake_any _).mono ?_
        rintro e w8 ⟨rfl, hb8⟩
        have Hf := hide (Hbw7.out.trans (hb8.mono (by omega)))
        clear hb8
        go_wp2_with fail
        go_ret
        exact ⟨rfl, Hf.out⟩
      · rw [h7]
        go_wp2_with fail
        refine (awake_any _).mono ?_
        rintro e w8 ⟨rfl, hb8⟩
        have Hf := hide (Hbw6.out.trans (hb8.mono (by omega)))
        clear hb8
        go_wp2_with fail
        go_ret
        exact ⟨rfl, Hf.out⟩
  · have hcase : decide (0 < heavyE t + heavyE t2) = true ∨ (decide (0 < heavyE t + heavyE t2) = false ∧ (mayE t != 0) = true) ∨ (decide (0 < heavyE t + heavyE t2) = false ∧ (mayE t != 0) = false ∧ (mayE t2 != 0) = true) := by
      by_cases q1 : 0 < heavyE t + heavyE t2
      · exact .inl (by simp [q1])
      · by_cases q2 : mayE t = 0
        · exact .inr (.inr ⟨by simp; omega, by simp [q2], by simp; exact fun h => hgood ⟨q1, q2, h⟩⟩)
        · exact .inr (.inl ⟨by simp; omega, by simp [q2]⟩)
    clear hgood
    rcases hcase with c1 | ⟨c1, c2⟩ | ⟨c1, c2, c3⟩
    all_goals
      go_enter Try.func7, Try.ntmps7
      go_wp2_with fail
      generalize (w.alloc (.cells #[.int .i64 op, .int .i64 n, .slice A len cap] 24)).alloc (.cells #[.int .i64 op2, .int .i64 n2, .slice A2 len2 cap2] 24) = W at *
      have hBW : B ≤ W.heap.size := by omega
      have C0 := cell_regrown Hbx1.out.1
      have C1 := cell_regrown Hbx1.out.2.1
      have C2 := cell_regrown Hbx1.out.2.2
      have E0 := cell_regrown Hbx2.out.1
      have E1 := cell_regrown Hbx2.out.2.1
      have E2 := cell_regrown Hbx2.out.2.2
      refine wp_region_quiet_below (by kernel_rfl) (by kernel_rfl) ?_
      repeat (go_big_quiet_step (first | (go_at_call 9; exact q_heavy hBW (by assumption)) | (go_at_call 11; exact q_may hBW (by assumption))))
      refine wpQuiet_nil ?_
      intro w3 hw3
      obtain ⟨p, hp⟩ := hw3
      have hb3 : Below W.heap.size W w3 := by rw [hp]; exact below_regrown W p.d p.os
      have hz3 := hb3.size
      have Hbx' := hide (Hbx.out.trans (hb3.mono (by omega)))
      clear hp hb3 C0 C1 C2 E0 E1 E2 Hbx Hre Hre2 Hbx1 Hbx2 hBW
      go_wp2_with fail
      refine (awake_any _).mono ?_
      rintro e w4 ⟨rfl, hb4⟩
      have Hf := hide (Hbx'.out.trans (hb4.mono (by omega)))
      clear hb4
      go_wp2_with fail
      go_ret
      exact ⟨rfl, Hf.out⟩
end Go.Proofs.Ytjllnnbnhkmjkaa
