/- ShowExprs: two expressions of the same variables have one text just if they are the same. -/
import Derived.Test.YtjpphjmehgflpaaDoorHAwake
import Derived.Test.YtjpphjmehgflpaaDoorMHeavy
import Derived.Test.YtjpphjmehgflpaaDoorHSameR
import Derived.Lib.QuietBelow
import Derived.BigQuiet
namespace Go.Proofs.YtjpphjmehgflpaaDoor
open Go.RowKit Ex
open Go.Sort (grow)
set_option linter.unusedSimpArgs false
set_option linter.unusedVariables false

theorem q_showE {W : World} {B : Nat} {s : SL} {l : List Dom.V} {d : Nat} {op n : Int} {A : Option Addr} {len cap : Nat} {t : T} {dd : Nat} {os : Array Obj} (ho : OkVars s l) (hB : B ≤ W.heap.size) (Hre : Hid (RE W B d op n A len cap t)) (Hrv : Hid (Dom.RV W B s.A s.n l)) (HT : Hid (TB W.heap.size W)) : Calls Tryd.prog 11 #[s.v, .agg #[.int .i64 op, .int .i64 n, .slice A len cap]] (grow (redrawn W dd) os) fun e w'' => e = .returned (.string (bytesOf (showE l t))) ∧ ∃ p : Regrown, w'' = grow (redrawn W p.d) p.os :=
  Calls.regrown_of (showE_any B s l d op n A len cap t _ ho (Nat.le_trans hB (below_regrown W dd os).size) (Hre.out.below ((below_regrown W dd os).mono hB)) (Hrv.out.below ((below_regrown W dd os).mono hB)) (HT.out.up (below_regrown W dd os)))
theorem bytes_listE (l : List UInt8) : (bytesOf l).toList = l := by rw [ByteArray.toList_eq]; rfl
theorem showE_empty (l : List Dom.V) (t : T) : (bytesOf (showE l t)).toList.isEmpty = !((sortE l t).2 == 0) := by
  rw [bytes_listE]
  unfold showE
  by_cases h : (sortE l t).2 = 0
  · rw [if_pos h, h]
    cases e : exT l t with
    | nil => exact absurd e (ex_ne h)
    | cons _ _ => rfl
  · rw [if_neg h]
    have : ((sortE l t).2 == 0) = false := by simp [h]
    rw [this]; rfl
theorem showE_same (l : List Dom.V) (t u : T) (hm : (sortE l t).2 = 0) (hk : (sortE l u).2 = 0) : ((bytesOf (showE l t)).toList == (bytesOf (showE l u)).toList) = sameE t u := by
  rw [bytes_listE, bytes_listE]
  unfold showE
  rw [if_pos hm, if_pos hk]
  exact ex_same hm hk

set_option maxRecDepth 100000 in
set_option maxHeartbeats 8000000 in
theorem exprs_any (B : Nat) (A : Option Addr) (n c : Nat) (l : List Dom.V) (d1 : Nat) (o1 n1 : Int) (A1 : Option Addr) (l1 c1 : Nat) (t : T) (d2 : Nat) (o2 n2 : Int) (A2 : Option Addr) (l2 c2 : Nat) (u : T) (w : World) (ho : OkVars ⟨A, n, c⟩ l) (hB : B ≤ w.heap.size) (hra : RE w B d1 o1 n1 A1 l1 c1 t) (hrb : RE w B d2 o2 n2 A2 l2 c2 u) (hrv : Dom.RV w B A n l) (hT : TB w.heap.size w) :
    Calls Tryd.prog 4 #[.slice A n c, .agg #[.int .i64 o1, .int .i64 n1, .slice A1 l1 c1], .agg #[.int .i64 o2, .int .i64 n2, .slice A2 l2 c2]] w fun e w' => e = .returned (.bool true) ∧ Below w.heap.size w w' := by
  obtain ⟨hx, hy, hbn, hzn⟩ := two_blk w #[.int .i64 o1, .int .i64 n1, .slice A1 l1 c1] #[.int .i64 o2, .int .i64 n2, .slice A2 l2 c2] 25
  have Hra := hide (hra.below (hbn.mono hB))
  have Hrb := hide (hrb.below (hbn.mono hB))
  have Hrv := hide (hrv.below (hbn.mono hB))
  have HT := hide (hT.up hbn)
  have Hbn := hide hbn
  have Hx := hide hx; have Hy := hide hy
  have Ho := hide ho
  obtain ⟨a0, a1, a2⟩ := box_of hx
  obtain ⟨b0, b1, b2⟩ := box_of hy
  clear hra hrb hrv hT hbn hx hy ho
  go_enter Tryd.func4, Tryd.ntmps4
  go_wp2_with fail
  generalize (w.alloc (.cells #[.int .i64 o1, .int .i64 n1, .slice A1 l1 c1] 25)).alloc (.cells #[.int .i64 o2, .int .i64 n2, .slice A2 l2 c2] 25) = W at *
  refine (hvx_any B ⟨⟨A, n, c⟩, ⟨o1, n1, A1, l1, c1⟩, ⟨o2, n2, A2, l2, c2⟩, ⟨none, 0, 0⟩, ⟨none, 0, 0⟩, ⟨none, 0, 0⟩, ⟨none, 0, 0⟩, ⟨none, 0, 0⟩⟩ ⟨l, t, u, [], [], [], [], []⟩ W (by omega) ⟨Ho.out, Hrv.out, ⟨d1, Hra.out⟩, ⟨d2, Hrb.out⟩, rows_nil _ _ _ _, rows_nil _ _ _ _, rows_nil _ _ _ _, rows_nil _ _ _ _, rows_nil _ _ _ _⟩).mono ?_
  rintro e w1 ⟨rfl, hb⟩
  generalize hvM ⟨l, t, u, [], [], [], [], []⟩ = hv
  have hz1 := hb.size
  have Hb1 := hide (Hbn.out.trans (hb.mono (by omega)))
  have HT1 := hide (HT.out.up hb)
  have Hra1 := hide (Hra.out.below (hb.mono (by omega)))
  have Hrb1 := hide (Hrb.out.below (hb.mono (by omega)))
  have Hrv1 := hide (Hrv.out.below (hb.mono (by omega)))
  have Hx1 := hide ((hb.block w.heap.size (by omega)).trans Hx.out)
  have Hy1 := hide ((hb.block (w.heap.size + 1) (by omega)).trans Hy.out)
  clear hb Hbn HT Hra Hrb Hrv Hx Hy a0 a1 a2 b0 b1 b2
  by_cases hh : 0 < hv
  · have hhb : decide (0 < hv) = true := by simp [hh]
    go_wp2_with fail
    refine (awake_any _ HT1.out).mono ?_
    rintro e w9 ⟨rfl, hb9⟩
    have Hb9 := hide (Hb1.out.trans (hb9.mono (by omega)))
    clear hb9
    go_wp2_with fail
    go_ret
    exact ⟨rfl, Hb9.out⟩
  · have hhb : decide (0 < hv) = false := by simp; omega
    have hBW1 : B ≤ w1.heap.size := by omega
    have Hc : Hid (∀ (a r : Value) dd os, ((a = .agg #[.int .i64 o1, .int .i64 n1, .slice A1 l1 c1] ∧ r = .string (bytesOf (showE l t))) ∨ (a = .agg #[.int .i64 o2, .int .i64 n2, .slice A2 l2 c2] ∧ r = .string (bytesOf (showE l u)))) → Calls Tryd.prog 11 #[.slice A n c, a] (grow (redrawn w1 dd) os) fun e w'' => e = .returned r ∧ ∃ p : Regrown, w'' = grow (redrawn w1 p.d) p.os) := hide (fun a r dd os h => by
      rcases h with ⟨rfl, rfl⟩ | ⟨rfl, rfl⟩
      · exact q_showE (s := ⟨A, n, c⟩) Ho.out hBW1 Hra1 Hrv1 HT1
      · exact q_showE (s := ⟨A, n, c⟩) Ho.out hBW1 Hrb1 Hrv1 HT1)
    have C0 := cell_regrown (box_of Hx1.out).1
    have C1 := cell_regrown (box_of Hx1.out).2.1
    have C2 := cell_regrown (box_of Hx1.out).2.2
    have E0 := cell_regrown (box_of Hy1.out).1
    have E1 := cell_regrown (box_of Hy1.out).2.1
    have E2 := cell_regrown (box_of Hy1.out).2.2
    go_wp2_with fail
    refine wp_region_quiet_below (by kernel_rfl) (by kernel_rfl) ?_
    repeat (go_big_quiet_step ((go_at_call 11; exact Hc.out _ _ _ _ (by first | exact Or.inl ⟨rfl, rfl⟩ | exact Or.inr ⟨rfl, rfl⟩))))
    refine wpQuiet_nil ?_
    intro w2 hw
    obtain ⟨p, hp⟩ := hw
    have hb : Below w1.heap.size w1 w2 := by rw [hp]; exact below_regrown w1 p.d p.os
    have hz2 := hb.size
    have Hb2 := hide (Hb1.out.trans (hb.mono (by omega)))
    have HT2 := hide (HT1.out.up hb)
    have Hra2 := hide (Hra1.out.below (hb.mono hBW1))
    have Hrb2 := hide (Hrb1.out.below (hb.mono hBW1))
    have Hrv2 := hide (Hrv1.out.below (hb.mono hBW1))
    have Hx2 := hide ((hb.block w.heap.size (by omega)).trans Hx1.out)
    have Hy2 := hide ((hb.block (w.heap.size + 1) (by omega)).trans Hy1.out)
    clear hp hb Hc Hb1 HT1 Hra1 Hrb1 Hrv1 Hx1 Hy1 C0 C1 C2 E0 E1 E2
    have HF1 : Hid ((bytesOf (showE l t)).toList.isEmpty = !((sortE l t).2 == 0)) := hide (showE_empty l t)
    have HF2 : Hid ((bytesOf (showE l u)).toList.isEmpty = !((sortE l u).2 == 0)) := hide (showE_empty l u)
    have HF3 : Hid ((sortE l t).2 = 0 → (sortE l u).2 = 0 → ((bytesOf (showE l t)).toList == (bytesOf (showE l u)).toList) = sameE t u) := hide (showE_same l t u)
    generalize hS1 : bytesOf (showE l t) = S1 at *
    generalize hS2 : bytesOf (showE l u) = S2 at *
    clear hS1 hS2
    obtain ⟨a0, a1, a2⟩ := box_of Hx2.out
    obtain ⟨b0, b1, b2⟩ := box_of Hy2.out
    go_wp2_with fail
    refine (rsort_any B A n c l d1 o1 n1 A1 l1 c1 t w2 Ho.out.1 Ho.out.2.1 Ho.out.2.2.1 (by omega) Hra2.out Hrv2.out Ho.out.2.2.2).mono ?_
    rintro e w3 ⟨rfl, hb⟩
    have hz3 := hb.size
    have Hb3 := hide (Hb2.out.trans (hb.mono (by omega)))
    have HT3 := hide (HT2.out.up hb)
    have Hra3 := hide (Hra2.out.below (hb.mono (by omega)))
    have Hrb3 := hide (Hrb2.out.below (hb.mono (by omega)))
    have Hrv3 := hide (Hrv2.out.below (hb.mono (by omega)))
    have Hx3 := hide ((hb.block w.heap.size (by omega)).trans Hx2.out)
    have Hy3 := hide ((hb.block (w.heap.size + 1) (by omega)).trans Hy2.out)
    clear hb Hb2 HT2 Hra2 Hrb2 Hrv2 Hx2 Hy2 a0 a1 a2 b0 b1 b2
    obtain ⟨a0, a1, a2⟩ := box_of Hx3.out
    obtain ⟨b0, b1, b2⟩ := box_of Hy3.out
    go_wp2_with fail
    refine (rsort_any B A n c l d2 o2 n2 A2 l2 c2 u w3 Ho.out.1 Ho.out.2.1 Ho.out.2.2.1 (by omega) Hrb3.out Hrv3.out Ho.out.2.2.2).mono ?_
    rintro e w4 ⟨rfl, hb⟩
    have hz4 := hb.size
    have Hb4 := hide (Hb3.out.trans (hb.mono (by omega)))
    have HT4 := hide (HT3.out.up hb)
    have Hra4 := hide (Hra3.out.below (hb.mono (by omega)))
    have Hrb4 := hide (Hrb3.out.below (hb.mono (by omega)))
    have Hrv4 := hide (Hrv3.out.below (hb.mono (by omega)))
    have Hx4 := hide ((hb.block w.heap.size (by omega)).trans Hx3.out)
    have Hy4 := hide ((hb.block (w.heap.size + 1) (by omega)).trans Hy3.out)
    clear hb Hb3 HT3 Hra3 Hrb3 Hrv3 Hx3 Hy3 a0 a1 a2 b0 b1 b2
    obtain ⟨a0, a1, a2⟩ := box_of Hx4.out
    obtain ⟨b0, b1, b2⟩ := box_of Hy4.out
    by_cases hm : (sortE l t).2 = 0
    · have hmb : ((sortE l t).2 == 0) = true := by simp [hm]
      have hmc : ((sortE l t).2 != 0) = false := by simp [hm]
      have hs1 : S1.toList.isEmpty = false := by rw [HF1.out, hmb]; rfl
      have Hm := hide hm; clear hm
      by_cases hk : (sortE l u).2 = 0
      · have hkb : ((sortE l u).2 == 0) = true := by simp [hk]
        have hkc : ((sortE l u).2 != 0) = false := by simp [hk]
        have hs2 : S2.toList.isEmpty = false := by rw [HF2.out, hkb]; rfl
        have hsame : (S1.toList == S2.toList) = sameE t u := HF3.out Hm.out hk
        have Hk := hide hk; clear hk
        go_wp2_with fail
        refine (rsameE_any B d1 o1 n1 A1 l1 c1 t d2 o2 n2 A2 l2 c2 u w4 (by omega) Hra4.out Hrb4.out).mono ?_
        rintro e w5 ⟨rfl, hb5⟩
        have Hb5 := hide (Hb4.out.trans (hb5.mono (by omega)))
        have HT5 := hide (HT4.out.up hb5)
        have hz5 := hb5.size
        clear hb5
        go_wp2_with fail
        refine (awake_any _ HT5.out).mono ?_
        rintro e w9 ⟨rfl, hb9⟩
        have Hb9 := hide (Hb5.out.trans (hb9.mono (by omega)))
        clear hb9
        go_wp2_with fail
        go_ret
        exact ⟨rfl, Hb9.out⟩
      · have hkb : ((sortE l u).2 == 0) = false := by simp [hk]
        have hkc : ((sortE l u).2 != 0) = true := by simp [hk]
        have hs2 : S2.toList.isEmpty = true := by rw [HF2.out, hkb]; rfl
        have Hk := hide hk; clear hk
        go_wp2_with fail
        refine (awake_any _ HT4.out).mono ?_
        rintro e w9 ⟨rfl, hb9⟩
        have Hb9 := hide (Hb4.out.trans (hb9.mono (by omega)))
        clear hb9
        go_wp2_with fail
        go_ret
        exact ⟨rfl, Hb9.out⟩
    · have hmb : ((sortE l t).2 == 0) = false := by simp [hm]
      have hmc : ((sortE l t).2 != 0) = true := by simp [hm]
      have hs1 : S1.toList.isEmpty = true := by rw [HF1.out, hmb]; rfl
      have Hm := hide hm; clear hm
      by_cases hk : (sortE l u).2 = 0
      · have hkb : ((sortE l u).2 == 0) = true := by simp [hk]
        have hkc : ((sortE l u).2 != 0) = false := by simp [hk]
        have hs2 : S2.toList.isEmpty = false := by rw [HF2.out, hkb]; rfl
        have Hk := hide hk; clear hk
        go_wp2_with fail
        refine (awake_any _ HT4.out).mono ?_
        rintro e w9 ⟨rfl, hb9⟩
        have Hb9 := hide (Hb4.out.trans (hb9.mono (by omega)))
        clear hb9
        go_wp2_with fail
        go_ret
        exact ⟨rfl, Hb9.out⟩
      · have hkb : ((sortE l u).2 == 0) = false := by simp [hk]
        have hkc : ((sortE l u).2 != 0) = true := by simp [hk]
        have hs2 : S2.toList.isEmpty = true := by rw [HF2.out, hkb]; rfl
        have Hk := hide hk; clear hk
        go_wp2_with fail
        refine (awake_any _ HT4.out).mono ?_
        rintro e w9 ⟨rfl, hb9⟩
        have Hb9 := hide (Hb4.out.trans (hb9.mono (by omega)))
        clear hb9
        go_wp2_with fail
        go_ret
        exact ⟨rfl, Hb9.out⟩
end Go.Proofs.YtjpphjmehgflpaaDoor
