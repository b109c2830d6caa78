/- The walk of the statement ExprSame. -/
import Derived.Test.YtjllnnbnhkmjkaaLCalls
namespace Go.Proofs.Ytjllnnbnhkmjkaa
open Go.RowKit
open Go.Sort (grow)
set_option linter.unusedSimpArgs false
set_option linter.unusedVariables false

theorem wf_range {a : Int} (h : (Lit.int .i64 a).wf = true) : -9223372036854775808 ≤ a ∧ a < 9223372036854775808 := by
  simp [Lit.wf, IntKind.min, IntKind.max, IntKind.bits, IntKind.signed] at h
  omega

set_option maxRecDepth 100000 in
set_option maxHeartbeats 4000000 in
theorem sameLaw_any (B d : Nat) (op n : Int) (A : Option Addr) (len cap : Nat) (t : T) (d2 : Nat) (op2 n2 : Int) (A2 : Option Addr) (len2 cap2 : Nat) (t2 : T) (y : Int) (w : World) (hB : B ≤ w.heap.size) (hre : RE w B d op n A len cap t) (hre2 : RE w B d2 op2 n2 A2 len2 cap2 t2) (hy : -9223372036854775808 ≤ y) (hy2 : y < 9223372036854775808) :
    Calls Try.prog 6 #[.agg #[.int .i64 op, .int .i64 n, .slice A len cap], .agg #[.int .i64 op2, .int .i64 n2, .slice A2 len2 cap2], .int .i64 y] w fun e w' => e = .returned (.bool true) ∧ Below w.heap.size w w' := by
  have hbx : Below w.heap.size w ((w.alloc (.cells #[.int .i64 op, .int .i64 n, .slice A len cap] 24)).alloc (.cells #[.int .i64 op2, .int .i64 n2, .slice A2 len2 cap2] 24)) := ((Below.refl _ _).alloc (Nat.le_refl _) _).alloc (by simp) _
  obtain ⟨bx1, bx2⟩ := two_box w op n A len cap op2 n2 A2 len2 cap2
  have hz0 : w.heap.size + 2 ≤ ((w.alloc (.cells #[.int .i64 op, .int .i64 n, .slice A len cap] 24)).alloc (.cells #[.int .i64 op2, .int .i64 n2, .slice A2 len2 cap2] 24)).heap.size := by simp
  have Hre := hide (hre.below (hbx.mono hB))
  have Hre2 := hide (hre2.below (hbx.mono hB))
  have Hbx1 := hide bx1
  have Hbx2 := hide bx2
  have Hbx := hide hbx
  have Htm := hide hre.eq_mk
  clear hre hre2 bx1 bx2 hbx
  obtain ⟨h1a, h1b⟩ := heavy_bd t
  obtain ⟨h2a, h2b⟩ := heavy_bd t2
  go_enter Try.func6, Try.ntmps6
  go_wp2_with fail
  generalize (w.alloc (.cells #[.int .i64 op, .int .i64 n, .slice A len cap] 24)).alloc (.cells #[.int .i64 op2, .int .i64 n2, .slice A2 len2 cap2] 24) = W at *
  have hBW : B ≤ W.heap.size := by omega
  have C0 := cell_regrown Hbx1.out.1
  have C1 := cell_regrown Hbx1.out.2.1
  have C2 := cell_regrown Hbx1.out.2.2
  have E0 := cell_regrown Hbx2.out.1
  have E1 := cell_regrown Hbx2.out.2.1
  have E2 := cell_regrown Hbx2.out.2.2
  refine wp_region_quiet_below (by kernel_rfl) (by kernel_rfl) ?_
  repeat (go_big_quiet_step ((go_at_call 9; exact q_heavy hBW (by assumption))))
  refine wpQuiet_nil ?_
  intro w3 hw3
  obtain ⟨p, hp⟩ := hw3
  have hb3 : Below W.heap.size W w3 := by rw [hp]; exact below_regrown W p.d p.os
  have hz3 := hb3.size
  have Hbx' := hide (Hbx.out.trans (hb3.mono (by omega)))
  have Hre' := hide (Hre.out.below (hb3.mono hBW))
  have Hre2' := hide (Hre2.out.below (hb3.mono hBW))
  have Hbx1' := hide (Hbx1.out.below hb3 (by omega))
  have Hbx2' := hide (Hbx2.out.below hb3 (by omega))
  have hz4 : w.heap.size + 2 ≤ w3.heap.size := by omega
  clear hp hb3 C0 C1 C2 E0 E1 E2 Hbx Hre Hre2 Hbx1 Hbx2 hBW hz3 hz0 W
  by_cases hh : 0 < heavyE t + heavyE t2
  · have hhb : decide (0 < heavyE t + heavyE t2) = true := by simp [hh]
    clear Hre' Hre2' Hbx1' Hbx2'
    go_wp2_with fail
    refine (awake_any _).mono ?_
    rintro e w4 ⟨rfl, hb4⟩
    have Hf := hide (Hbx'.out.trans (hb4.mono (by omega)))
    clear hb4
    go_wp2_with fail
    go_ret
    exact ⟨rfl, Hf.out⟩
  · have hhb : decide (0 < heavyE t + heavyE t2) = false := by simp; omega
    obtain ⟨a0, a1, a2⟩ := Hbx1'.out
    obtain ⟨b0, b1, b2⟩ := Hbx2'.out
    have hb4 : Below w3.heap.size w3 (w3.alloc (.cells #[.int .i64 op, .int .i64 (bits .xor .i64 n y), .slice A len cap] 24)) := (Below.refl _ _).alloc (Nat.le_refl _) _
    obtain ⟨k0, k1, k2⟩ := Hbx1'.out.below hb4 (by omega)
    obtain ⟨l0, l1, l2⟩ := Hbx2'.out.below hb4 (by omega)
    have hzA : (w3.alloc (.cells #[.int .i64 op, .int .i64 (bits .xor .i64 n y), .slice A len cap] 24)).heap.size = w3.heap.size + 1 := by simp
    have Hbc := hide (box_new w3 op (bits .xor .i64 n y) A len cap 24)
    have Hb4 := hide hb4
    clear hb4
    go_wp2_with fail
    clear a0 a1 a2 b0 b1 b2 k0 k1 k2 l0 l1 l2 hhb h1a h1b h2a h2b hh
    generalize w3.alloc (.cells #[.int .i64 op, .int .i64 (bits .xor .i64 n y), .slice A len cap] 24) = W at *
    have hBW : B ≤ W.heap.size := by omega
    have Hre4 := hide (Hre'.out.below (Hb4.out.mono (by omega)))
    have Hre24 := hide (Hre2'.out.below (Hb4.out.mono (by omega)))
    have Hbx14 := hide (Hbx1'.out.below Hb4.out (by omega))
    have Hbx24 := hide (Hbx2'.out.below Hb4.out (by omega))
    have Hbw4 := hide (Hbx'.out.trans (Hb4.out.mono (by omega)))
    have Hrc4 : Hid (RE W B d op (bits .xor .i64 n y) A len cap (.mk op (bits .xor .i64 n y) t.kids)) := hide (by
      have h := Hre4.out
      match d, h with
      | d + 1, ⟨_, _, h3, h4, h5, h6⟩ => exact ⟨rfl, rfl, h3, h4, h5, h6⟩)
    have Hcm := hide (sameE_comm t2 t)
    clear Hre' Hre2' Hbx1' Hbx2' Hbx' Hb4
    refine (same_any B d op n A len cap t d2 op2 n2 A2 len2 cap2 t2 W hBW Hre4.out Hre24.out).mono ?_
    rintro e w5 ⟨rfl, hb5⟩
    have hz5 := hb5.size
    obtain ⟨a0, a1, a2⟩ := Hbx14.out.below hb5 (by omega)
    obtain ⟨b0, b1, b2⟩ := Hbx24.out.below hb5 (by omega)
    have Hb5 := hide hb5
    clear hb5
    go_wp2_with fail
    refine (same_any B d2 op2 n2 A2 len2 cap2 t2 d op n A len cap t w5 (by omega) (Hre24.out.below (Hb5.out.mono hBW)) (Hre4.out.below (Hb5.out.mono hBW))).mono ?_
    rintro e w6 ⟨rfl, hb6⟩
    rw [Hcm.out]
    have hz6 := hb6.size
    have Hb6 := hide (Hb5.out.trans (hb6.mono (by omega)))
    clear a0 a1 a2 b0 b1 b2 hb6 Hb5
    obtain ⟨a0, a1, a2⟩ := Hbx14.out.below Hb6.out (by omega)
    obtain ⟨b0, b1, b2⟩ := Hbx24.out.below Hb6.out (by omega)
    have hxx : (!(sameE t t2 == sameE t t2)) = false := by simp
    go_wp2_with fail
    refine (may_any B d op n A len cap t w6 (by omega) (Hre4.out.below (Hb6.out.mono hBW))).mono ?_
    rintro e w7 ⟨rfl, hb7⟩
    have hz7 := hb7.size
    have Hb7 := hide (Hb6.out.trans (hb7.mono (by omega)))
    clear a0 a1 a2 b0 b1 b2 hb7 Hb6
    have Hre7 := hide (Hre4.out.below (Hb7.out.mono hBW))
    have Hre27 := hide (Hre24.out.below (Hb7.out.mono hBW))
    have Hrc7 := hide (Hrc4.out.below (Hb7.out.mono hBW))
    have Hbx17 := hide (Hbx14.out.below Hb7.out (by omega))
    have Hbx27 := hide (Hbx24.out.below Hb7.out (by omega))
    have Hbc7 := hide (Hbc.out.below Hb7.out (by omega))
    have Hbw7 := hide (Hbw4.out.trans (Hb7.out.mono (by omega)))
    have hBW7 : B ≤ w7.heap.size := by omega
    clear Hre4 Hre24 Hrc4 Hbx14 Hbx24 Hbc Hbw4 Hb7 Hcm
    by_cases hm : mayE t = 0
    · have m1 : (mayE t == 0) = true := by simp [hm]
      have m2 : (mayE t != 0) = false := by simp [hm]
      have Hrf := hide (sameE_refl hm)
      have Hxr : Hid (sameE t (.mk op (bits .xor .i64 n y) t.kids) = (y == 0)) := hide (by
        have h := same_xor hm hy hy2
        have e := Htm.out
        have e1 : t.op = op := by rw [e]; rfl
        have e2 : t.n = n := by rw [e]; rfl
        rw [e1, e2] at h
        exact h)
      obtain ⟨a0, a1, a2⟩ := Hbx17.out
      clear hm
      go_wp2_with fail
      refine (same_any B d op n A len cap t d op n A len cap t w7 hBW7 Hre7.out Hre7.out).mono ?_
      rintro e w8 ⟨rfl, hb8⟩
      rw [Hrf.out]
      have hz8 := hb8.size
      have Hre8 := hide (Hre7.out.below (hb8.mono hBW7))
      have Hre28 := hide (Hre27.out.below (hb8.mono hBW7))
      have Hrc8 := hide (Hrc7.out.below (hb8.mono hBW7))
      have Hbx18 := hide (Hbx17.out.below hb8 (by omega))
      have Hbx28 := hide (Hbx27.out.below hb8 (by omega))
      have Hbc8 := hide (Hbc7.out.below hb8 (by omega))
      have Hbw8 := hide (Hbw7.out.trans (hb8.mono (by omega)))
      have hBW8 : B ≤ w8.heap.size := by omega
      clear Hre7 Hre27 Hrc7 Hbx17 Hbx27 Hbc7 Hbw7 hb8 a0 a1 a2 Hrf
      generalize hT : T.mk op (bits .xor .i64 n y) t.kids = tc at *
      have hxe : (sameE t tc == (y == 0)) = true := by rw [Hxr.out]; simp
      clear hT Hxr Htm
      go_wp2_with fail
      cases hx : sameE t t2
      · skip
        have C0 := cell_regrown Hbx18.out.1
        have C1 := cell_regrown Hbx18.out.2.1
        have C2 := cell_regrown Hbx18.out.2.2
        have E0 := cell_regrown Hbx28.out.1
        have E1 := cell_regrown Hbx28.out.2.1
        have E2 := cell_regrown Hbx28.out.2.2
        have F0 := cell_regrown Hbc8.out.1
        have F1 := cell_regrown Hbc8.out.2.1
        have F2 := cell_regrown Hbc8.out.2.2
        clear Hbx18 Hbx28 Hbc8
        refine wp_region_quiet_below (by kernel_rfl) (by kernel_rfl) ?_
        repeat (go_big_quiet_step (first | (go_at_call 11; exact q_may hBW8 (by assumption)) | (go_at_call 13; exact q_same hBW8 (by assumption) (by assumption)) | (go_at_call 15; exact q_nodes hBW8 (by assumption)) | (go_at_call 10; exact q_awake)))
        refine wpQuiet_nil ?_
        intro w9 hw9
        obtain ⟨p, hp⟩ := hw9
        have hb9 : Below w8.heap.size w8 w9 := by rw [hp]; exact below_regrown w8 p.d p.os
        have Hf := hide (Hbw8.out.trans (hb9.mono (by omega)))
        clear hp hb9 C0 C1 C2 E0 E1 E2 F0 F1 F2
        go_wp2_with fail
        go_ret
        exact ⟨rfl, Hf.out⟩
      · obtain rfl : t = t2 := sameE_imp hx
        have C0 := cell_regrown Hbx18.out.1
        have C1 := cell_regrown Hbx18.out.2.1
        have C2 := cell_regrown Hbx18.out.2.2
        have E0 := cell_regrown Hbx28.out.1
        have E1 := cell_regrown Hbx28.out.2.1
        have E2 := cell_regrown Hbx28.out.2.2
        have F0 := cell_regrown Hbc8.out.1
        have F1 := cell_regrown Hbc8.out.2.1
        have F2 := cell_regrown Hbc8.out.2.2
        clear Hbx18 Hbx28 Hbc8
        refine wp_region_quiet_below (by kernel_rfl) (by kernel_rfl) ?_
        repeat (go_big_quiet_step (first | (go_at_call 11; exact q_may hBW8 (by assumption)) | (go_at_call 13; exact q_same hBW8 (by assumption) (by assumption)) | (go_at_call 15; exact q_nodes hBW8 (by assumption)) | (go_at_call 10; exact q_awake)))
        refine wpQuiet_nil ?_
        intro w9 hw9
        obtain ⟨p, hp⟩ := hw9
        have hb9 : Below w8.heap.size w8 w9 := by rw [hp]; exact below_regrown w8 p.d p.os
        have Hf := hide (Hbw8.out.trans (hb9.mono (by omega)))
        clear hp hb9 C0 C1 C2 E0 E1 E2 F0 F1 F2
        go_wp2_with fail
        go_ret
        exact ⟨rfl, Hf.out⟩
    · have m1 : (mayE t == 0) = false := by simp [hm]
      have m2 : (mayE t != 0) = true := by simp [hm]
      clear hm
      have hz8 := hz7
      have Hre8 := Hre7
      have Hre28 := Hre27
      have Hrc8 := Hrc7
      have Hbx18 := Hbx17
      have Hbx28 := Hbx27
      have Hbc8 := Hbc7
      have Hbw8 := Hbw7
      have hBW8 := hBW7
      clear Hre7 Hre27 Hrc7 Hbx17 Hbx27 Hbc7 Hbw7 hBW7 Htm
      go_wp2_with fail
      cases hx : sameE t t2
      · skip
        have C0 := cell_regrown Hbx18.out.1
        have C1 := cell_regrown Hbx18.out.2.1
        have C2 := cell_regrown Hbx18.out.2.2
        have E0 := cell_regrown Hbx28.out.1
        have E1 := cell_regrown Hbx28.out.2.1
        have E2 := cell_regrown Hbx28.out.2.2
        have F0 := cell_regrown Hbc8.out.1
        have F1 := cell_regrown Hbc8.out.2.1
        have F2 := cell_regrown Hbc8.out.2.2
        clear Hbx18 Hbx28 Hbc8
        refine wp_region_quiet_below (by kernel_rfl) (by kernel_rfl) ?_
        repeat (go_big_quiet_step (first | (go_at_call 11; exact q_may hBW8 (by assumption)) | (go_at_call 13; exact q_same hBW8 (by assumption) (by assumption)) | (go_at_call 15; exact q_nodes hBW8 (by assumption)) | (go_at_call 10; exact q_awake)))
        refine wpQuiet_nil ?_
        intro w9 hw9
        obtain ⟨p, hp⟩ := hw9
        have hb9 : Below w7.heap.size w7 w9 := by rw [hp]; exact below_regrown w7 p.d p.os
        have Hf := hide (Hbw8.out.trans (hb9.mono (by omega)))
        clear hp hb9 C0 C1 C2 E0 E1 E2 F0 F1 F2
        go_wp2_with fail
        go_ret
        exact ⟨rfl, Hf.out⟩
      · obtain rfl : t = t2 := sameE_imp hx
        have C0 := cell_regrown Hbx18.out.1
        have C1 := cell_regrown Hbx18.out.2.1
        have C2 := cell_regrown Hbx18.out.2.2
        have E0 := cell_regrown Hbx28.out.1
        have E1 := cell_regrown Hbx28.out.2.1
        have E2 := cell_regrown Hbx28.out.2.2
        have F0 := cell_regrown Hbc8.out.1
        have F1 := cell_regrown Hbc8.out.2.1
        have F2 := cell_regrown Hbc8.out.2.2
        clear Hbx18 Hbx28 Hbc8
        refine wp_region_quiet_below (by kernel_rfl) (by kernel_rfl) ?_
        repeat (go_big_quiet_step (first | (go_at_call 11; exact q_may hBW8 (by assumption)) | (go_at_call 13; exact q_same hBW8 (by assumption) (by assumption)) | (go_at_call 15; exact q_nodes hBW8 (by assumption)) | (go_at_call 10; exact q_awake)))
        refine wpQuiet_nil ?_
        intro w9 hw9
        obtain ⟨p, hp⟩ := hw9
        have hb9 : Below w7.heap.size w7 w9 := by rw [hp]; exact below_regrown w7 p.d p.os
        have Hf := hide (Hbw8.out.trans (hb9.mono (by omega)))
        clear hp hb9 C0 C1 C2 E0 E1 E2 F0 F1 F2
        go_wp2_with fail
        go_ret
        exact ⟨rfl, Hf.out⟩
end Go.Proofs.Ytjllnnbnhkmjkaa
