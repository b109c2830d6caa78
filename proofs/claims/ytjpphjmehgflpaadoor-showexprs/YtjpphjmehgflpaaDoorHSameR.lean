/- The walks of the reference's same and SameExpr. -/
import Derived.Test.YtjpphjmehgflpaaDoorGEx
namespace Go.Proofs.YtjpphjmehgflpaaDoor.Ex
open Go.RowKit
open Go.Sort (grow)
set_option linter.unusedSimpArgs false
set_option linter.unusedVariables false

set_option maxHeartbeats 1000000 in
theorem rsame_any (B : Nat) : ∀ (d : Nat) (op n : Int) (A : Option Addr) (len cap : Nat) (t : T) (d2 : Nat) (op2 n2 : Int) (A2 : Option Addr) (len2 cap2 : Nat) (t2 : T) (w : World), B ≤ w.heap.size → RE w B d op n A len cap t → RE w B d2 op2 n2 A2 len2 cap2 t2 →
    Calls Tryd.prog 40 #[.agg #[.int .i64 op, .int .i64 n, .slice A len cap], .agg #[.int .i64 op2, .int .i64 n2, .slice A2 len2 cap2]] w fun e w' => e = .returned (.bool (sameT t t2)) ∧ Below w.heap.size w w' := by
  intro d
  induction d with
  | zero => intro op n A len cap t d2 op2 n2 A2 len2 cap2 t2 w hB h; exact absurd h id
  | succ d ih =>
    intro op n A len cap t d2 op2 n2 A2 len2 cap2 t2 w hB hre hre2
    match d2, hre2 with
    | 0, hre2 => exact absurd hre2 id
    | d2 + 1, hre2 =>
      have IH := hide ih; clear ih
      have Hre := hide hre
      have Hre2 := hide hre2
      obtain ⟨hx1, hx2, hlen, hcap, hmx, hx6⟩ := hre
      obtain ⟨hy1, hy2, hlen2, hcap2, hmx2, hy6⟩ := hre2
      unfold maxLen at hmx hmx2
      have Hlen := hide hlen
      have Hlen2 := hide hlen2
      have Hs : Hid (sameT t t2 = ((op == op2) && (n == n2) && sameK t.kids t2.kids)) := hide (by rw [sameT_eq, hx1, hx2, hy1, hy2])
      clear hlen hx1 hx2 hx6 hlen2 hy1 hy2 hy6
      have hbx : Below w.heap.size w ((w.alloc (.cells #[.int .i64 op, .int .i64 n, .slice A len cap] 25)).alloc (.cells #[.int .i64 op2, .int .i64 n2, .slice A2 len2 cap2] 25)) := ((Below.refl _ _).alloc (Nat.le_refl _) _).alloc (by simp) _
      obtain ⟨bx1, bx2⟩ := two_box w op n A len cap op2 n2 A2 len2 cap2
      have Hbx1 := hide bx1
      have Hbx2 := hide bx2
      clear bx1 bx2
      cases ho : op == op2
      · have Hr : Hid (sameT t t2 = false) := hide (by rw [Hs.out, ho]; rfl)
        have ho' : (op != op2) = true := by simp [bne, ho]
        clear ho
        go_enter Tryd.func40, Tryd.ntmps40
        go_wp2_with fail
        go_ret
        exact ⟨ret_bool Hr.out.symm, hbx⟩
      · have ho' : (op != op2) = false := by simp [bne, ho]
        cases hn : n == n2
        · have Hr : Hid (sameT t t2 = false) := hide (by rw [Hs.out, ho, hn]; rfl)
          have hn' : (n != n2) = true := by simp [bne, hn]
          clear hn ho
          go_enter Tryd.func40, Tryd.ntmps40
          go_wp2_with fail
          go_ret
          exact ⟨ret_bool Hr.out.symm, hbx⟩
        · have hn' : (n != n2) = false := by simp [bne, hn]
          have Hr1 : Hid (sameT t t2 = sameK t.kids t2.kids) := hide (by rw [Hs.out, ho, hn]; rfl)
          clear hn ho
          by_cases hl : len = len2
          · subst hl
            have hl' : ((len : Int) != (len : Int)) = false := by simp
            go_enter Tryd.func40, Tryd.ntmps40
            go_wp2_with fail
            generalize hw2 : (w.alloc (.cells #[.int .i64 op, .int .i64 n, .slice A len cap] 25)).alloc (.cells #[.int .i64 op2, .int .i64 n2, .slice A2 len cap2] 25) = w2 at *
            have hz2 : w.heap.size + 2 ≤ w2.heap.size := by rw [← hw2]; simp
            clear hw2
            go_loopw [30] (fun i wr => ∃ (k : Nat), k ≤ len ∧ i = .int .i64 k ∧ Hid (sameK (t.kids.drop k) (t2.kids.drop k) = sameK t.kids t2.kids) ∧ Below w2.heap.size w2 wr) (fun i _ => len - (intOf i).toNat)
            case atStart => exact ⟨0, Nat.zero_le _, rfl, hide rfl, Below.refl _ _⟩
            case round =>
              obtain ⟨k, hk, rfl, HT, hb⟩ := hrel
              have hsz := hb.size
              have hbw := hbx.trans (hb.mono (by omega))
              by_cases hlt : k < len
              · have hlt' : ((k : Int) < (len : Int)) := by omega
                obtain ⟨b, off, u, uo, un, uA, ul, uc, rfl, hbB, hku, ⟨c0, c1, cs⟩, hru⟩ := (Hre.out.below (hbw.mono hB)).at_ hlt
                obtain ⟨b2, off2, v, vo, vn, vA, vl, vc, rfl, hbB2, hkv, ⟨e0, e1, es⟩, hrv⟩ := (Hre2.out.below (hbw.mono hB)).at_ hlt
                have Hst : Hid ((sameT u v && sameK (t.kids.drop (k + 1)) (t2.kids.drop (k + 1))) = sameK t.kids t2.kids) := hide (by rw [← HT.out, drop_at hku, drop_at hkv, sameK])
                clear hku hkv
                have Hru := hide hru
                have Hrv := hide hrv
                clear hru hrv
                obtain ⟨_, _, g1⟩ := Hbx1.out.below hb (by omega)
                obtain ⟨_, _, g2⟩ := Hbx2.out.below hb (by omega)
                have C0 := cell_regrown c0
                have C1 := cell_regrown c1
                have C2 := cell_regrown cs
                have E0 := cell_regrown e0
                have E1 := cell_regrown e1
                have E2 := cell_regrown es
                have G1 := cell_regrown g1
                have G2 := cell_regrown g2
                have Hcall : Hid (∀ (dd : Nat) (os : Array Obj), Calls Tryd.prog 40 #[.agg #[.int .i64 uo, .int .i64 un, .slice uA ul uc], .agg #[.int .i64 vo, .int .i64 vn, .slice vA vl vc]] (grow (redrawn wr dd) os) fun e w' => e = .returned (.bool (sameT u v)) ∧ Below (grow (redrawn wr dd) os).heap.size (grow (redrawn wr dd) os) w') :=
                  hide (fun dd os => IH.out uo un uA ul uc u d2 vo vn vA vl vc v _ (Nat.le_trans (by omega) (below_regrown wr dd os).size) (Hru.out.below ((below_regrown wr dd os).mono (by omega))) (Hrv.out.below ((below_regrown wr dd os).mono (by omega))))
                clear c0 c1 cs e0 e1 es g1 g2
                go_wp2_with fail
                refine wp_region_quiet_below (by kernel_rfl) (by kernel_rfl) ?_
                repeat (go_big_quiet_step ((go_at_call 40; exact Calls.regrown_of (Hcall.out _ _))))
                refine wpQuiet_nil ?_
                intro w3 hw3
                obtain ⟨p, hp⟩ := hw3
                have hb3 : Below wr.heap.size wr w3 := by rw [hp]; exact below_regrown wr p.d p.os
                have hbj := hb.trans (hb3.mono hsz)
                have hbw3 := hbw.trans (hb3.mono (by omega))
                clear hp hb3 C0 C1 C2 E0 E1 E2 G1 G2 Hcall
                cases hu : sameT u v
                · have Hf : Hid (sameT t t2 = false) := hide (by rw [Hr1.out, ← Hst.out, hu]; rfl)
                  clear hu
                  go_wp2_with fail
                  go_ret
                  exact ⟨ret_bool Hf.out.symm, hbw3⟩
                · have Hon : Hid (sameK (t.kids.drop (k + 1)) (t2.kids.drop (k + 1)) = sameK t.kids t2.kids) := hide (by rw [← Hst.out, hu]; rfl)
                  clear hu
                  go_wp2_with fail
                  go_roundw
                  case rel => exact ⟨k + 1, by omega, by go_num, Hon, hbj⟩
                  case measure => simp [intOf]; omega
              · have hlt' : ¬ ((k : Int) < (len : Int)) := by omega
                have Hf : Hid (sameT t t2 = true) := hide (by rw [Hr1.out, ← HT.out, List.drop_of_length_le (by rw [Hlen.out]; omega), List.drop_of_length_le (by rw [Hlen2.out]; omega), sameK])
                go_wp2_with fail
                go_ret
                exact ⟨ret_bool Hf.out.symm, hbw⟩
          · have hl' : ((len : Int) != (len2 : Int)) = true := by simp; omega
            have Hr : Hid (sameT t t2 = false) := hide (by rw [Hr1.out, sameK_len _ _ (by rw [Hlen.out, Hlen2.out]; exact hl)])
            clear hl
            go_enter Tryd.func40, Tryd.ntmps40
            go_wp2_with fail
            go_ret
            exact ⟨ret_bool Hr.out.symm, hbx⟩

set_option maxHeartbeats 1000000 in
theorem rsameE_any (B d : Nat) (op n : Int) (A : Option Addr) (len cap : Nat) (t : T) (d2 : Nat) (op2 n2 : Int) (A2 : Option Addr) (len2 cap2 : Nat) (t2 : T) (w : World) (hB : B ≤ w.heap.size) (hre : RE w B d op n A len cap t) (hre2 : RE w B d2 op2 n2 A2 len2 cap2 t2) :
    Calls Tryd.prog 13 #[.agg #[.int .i64 op, .int .i64 n, .slice A len cap], .agg #[.int .i64 op2, .int .i64 n2, .slice A2 len2 cap2]] w fun e w' => e = .returned (.bool (sameE t t2)) ∧ Below w.heap.size w w' := by
  have hbx : Below w.heap.size w ((w.alloc (.cells #[.int .i64 op, .int .i64 n, .slice A len cap] 25)).alloc (.cells #[.int .i64 op2, .int .i64 n2, .slice A2 len2 cap2] 25)) := ((Below.refl _ _).alloc (Nat.le_refl _) _).alloc (by simp) _
  obtain ⟨bx1, bx2⟩ := two_box w op n A len cap op2 n2 A2 len2 cap2
  have hz0 : w.heap.size + 2 ≤ ((w.alloc (.cells #[.int .i64 op, .int .i64 n, .slice A len cap] 25)).alloc (.cells #[.int .i64 op2, .int .i64 n2, .slice A2 len2 cap2] 25)).heap.size := by simp
  have Hre := hide (hre.below (hbx.mono hB))
  have Hre2 := hide (hre2.below (hbx.mono hB))
  have Hbx1 := hide bx1
  have Hbx2 := hide bx2
  clear hre hre2 bx1 bx2
  have Hs : Hid (sameE t t2 = (fitsB t && fitsB t2 && sameT t t2)) := hide rfl
  go_enter Tryd.func13, Tryd.ntmps13
  go_wp2_with fail
  generalize (w.alloc (.cells #[.int .i64 op, .int .i64 n, .slice A len cap] 25)).alloc (.cells #[.int .i64 op2, .int .i64 n2, .slice A2 len2 cap2] 25) = w2 at *
  refine (rfits_any B d op n A len cap t _ (by omega) Hre.out).mono ?_
  rintro e w3 ⟨rfl, hb3⟩
  have hz3 := hb3.size
  have hbw3 := hbx.trans (hb3.mono (by omega))
  obtain ⟨a0, a1, a2⟩ := Hbx1.out.below hb3 (by omega)
  obtain ⟨b0, b1, b2⟩ := Hbx2.out.below hb3 (by omega)
  have Hre3 := hide (Hre.out.below (hb3.mono (by omega)))
  have Hre23 := hide (Hre2.out.below (hb3.mono (by omega)))
  have Hc1 := hide (Hbx1.out.below hb3 (by omega))
  have Hc2 := hide (Hbx2.out.below hb3 (by omega))
  clear hb3 Hre Hre2 Hbx1 Hbx2
  cases hf : fitsB t
  · have Hr : Hid (sameE t t2 = false) := hide (by rw [Hs.out, hf]; rfl)
    go_wp2_with fail
    go_ret
    exact ⟨ret_bool Hr.out.symm, hbw3⟩
  · go_wp2_with fail
    refine (rfits_any B d2 op2 n2 A2 len2 cap2 t2 _ (by omega) Hre23.out).mono ?_
    rintro e w4 ⟨rfl, hb4⟩
    have hz4 := hb4.size
    have hbw4 := hbw3.trans (hb4.mono (by omega))
    clear a0 a1 a2 b0 b1 b2
    obtain ⟨a0, a1, a2⟩ := Hc1.out.below hb4 (by omega)
    obtain ⟨b0, b1, b2⟩ := Hc2.out.below hb4 (by omega)
    have Hre4 := hide (Hre3.out.below (hb4.mono (by omega)))
    have Hre24 := hide (Hre23.out.below (hb4.mono (by omega)))
    clear hb4 Hre3 Hre23 Hc1 Hc2
    cases hf2 : fitsB t2
    · have Hr : Hid (sameE t t2 = false) := hide (by rw [Hs.out, hf, hf2]; rfl)
      go_wp2_with fail
      go_ret
      exact ⟨ret_bool Hr.out.symm, hbw4⟩
    · have Hr : Hid (sameE t t2 = sameT t t2) := hide (by rw [Hs.out, hf, hf2]; rfl)
      go_wp2_with fail
      refine (rsame_any B d op n A len cap t d2 op2 n2 A2 len2 cap2 t2 _ (by omega) Hre4.out Hre24.out).mono ?_
      rintro e w5 ⟨rfl, hb5⟩
      have hbw5 := hbw4.trans (hb5.mono (by omega))
      go_wp2_with fail
      go_ret
      exact ⟨ret_bool Hr.out.symm, hbw5⟩
end Go.Proofs.YtjpphjmehgflpaaDoor.Ex
