/- The walks of the statements' own vars, num, op and awake; contracts within regions that draw their order. -/
import Derived.Test.YtkjclofkfmkbdaaEDev
namespace Go.Proofs.Ytkjclofkfmkbdaa
open Go.RowKit Ex
open Go.Sort (grow)
set_option linter.unusedSimpArgs false
set_option linter.unusedVariables false

def VarsPost (w : World) (e : Ending) (w' : World) : Prop := e = .returned (.slice (some ⟨w.heap.size, 0, none⟩) 2 2) ∧ Below w.heap.size w w' ∧ w.heap.size + 1 ≤ w'.heap.size ∧ Dom.RV w' (w.heap.size + 1) (some ⟨w.heap.size, 0, none⟩) 2 Dom.twoL
set_option maxHeartbeats 400000 in
theorem vars_any (w : World) : Calls Try.prog 32 #[] w (VarsPost w) := by
  go_enter Try.func32, Try.ntmps32
  go_wp2_with fail
  go_ret
  exact ⟨rfl, (Below.refl _ _).alloc (Nat.le_refl _) _, by simp, Dom.two_rv w⟩
theorem num_any (x : Int) (w : World) : Calls Try.prog 25 #[.int .i64 x] w fun e w' => e = .returned (.agg #[.int .i64 1, .int .i64 x, .slice none 0 0]) ∧ Below w.heap.size w w' := by
  go_enter Try.func25, Try.ntmps25
  go_wp2_with fail
  refine bodyPost_ret (v := .agg #[.int .i64 1, .int .i64 x, .slice none 0 0]) (by simp [results, Try.results25, go_sem]) rfl ?_
  exact ⟨rfl, (Below.refl _ _).alloc (Nat.le_refl _) _⟩
theorem op_any (x : Int) (A : Option Addr) (len cap : Nat) (w : World) : Calls Try.prog 23 #[.int .i64 x, .slice A len cap] w fun e w' => e = .returned (.agg #[.int .i64 x, .int .i64 0, .slice A len cap]) ∧ Below w.heap.size w w' := by
  go_enter Try.func23, Try.ntmps23
  go_wp2_with fail
  refine bodyPost_ret (v := .agg #[.int .i64 x, .int .i64 0, .slice A len cap]) (by simp [results, Try.results23, go_sem]) rfl ?_
  exact ⟨rfl, (Below.refl _ _).alloc (Nat.le_refl _) _⟩
/- a node of two children, newly laid -/
theorem pair_re {w : World} {B d : Nat} {x op n : Int} {A : Option Addr} {len cap : Nat} {t : T} {d2 : Nat} {op2 n2 : Int} {A2 : Option Addr} {len2 cap2 : Nat} {t2 : T} (hB : B ≤ w.heap.size) (h1 : RE w B d op n A len cap t) (h2 : RE w B d2 op2 n2 A2 len2 cap2 t2) :
    RE (w.alloc (.cells #[.int .i64 op, .int .i64 n, .slice A len cap, .int .i64 op2, .int .i64 n2, .slice A2 len2 cap2] 25)) (w.heap.size + 1) (d + d2 + 1) x 0 (some ⟨w.heap.size, 0, none⟩) 2 2 (.mk x 0 [t, t2]) := by
  have hb : Below w.heap.size w (w.alloc (.cells #[.int .i64 op, .int .i64 n, .slice A len cap, .int .i64 op2, .int .i64 n2, .slice A2 len2 cap2] 25)) := (Below.refl _ _).alloc (Nat.le_refl _) _
  have k1 := RE.more (B' := w.heap.size + 1) (by omega) _ _ _ _ _ _ _ ((h1.below (hb.mono hB)).ups d2)
  have k2 := RE.more (B' := w.heap.size + 1) (by omega) _ _ _ _ _ _ _ ((h2.below (hb.mono hB)).ups d)
  rw [Nat.add_comm d2 d] at k2
  refine RE.node rfl (by omega) (by unfold maxLen; omega) (by omega) (fun k u hu => ?_)
  match k, hu with
  | 0, hu => simp at hu; subst hu; exact ⟨_, _, _, _, _, by simp [CellE, go_sem], k1⟩
  | 1, hu => simp at hu; subst hu; exact ⟨_, _, _, _, _, by simp [CellE, go_sem], k2⟩
  | k + 2, hu => simp at hu
def exA : T := .mk 12 0 [.mk 1 2 [], .mk 3 1 []]
def exB : T := .mk 12 0 [.mk 1 1000 [], .mk 1 1 []]
def exC : T := .mk 10 0 [.mk 1 1 [], .mk 1 2 []]
theorem exA_val : valE Dom.twoL exA 5 0 = (5, 0) := by decide +kernel
theorem exB_val : valE Dom.twoL exB 0 0 = (0, 6) := by decide +kernel
theorem exC_true : trueE Dom.twoL exC 0 0 = true := by decide +kernel

set_option maxRecDepth 100000 in
set_option maxHeartbeats 1000000 in
theorem awake_any (w : World) : Calls Try.prog 11 #[] w fun e w' => e = .returned (.bool true) ∧ Below w.heap.size w w' := by
  go_enter Try.func11, Try.ntmps11
  go_wp2_with fail
  refine (vars_any _).mono ?_
  rintro e v1 ⟨rfl, hb1, hz1, hv1⟩
  have Hv1 := hide hv1
  have Hb1 := hide hb1
  clear hv1 hb1
  go_wp2_with fail
  refine (num_any _ _).mono ?_
  rintro e n10 ⟨rfl, hc10⟩
  have Hc10 := hide hc10
  have hy10 := hc10.size
  clear hc10
  go_wp2_with fail
  refine (op_any _ _ _ _ _).mono ?_
  rintro e p1 ⟨rfl, hd1⟩
  have Hrv1 := hide ((Hv1.out).below (Hc10.out.mono (by omega)))
  have Hpr1 := hide (pair_re (w := n10) (x := 12) (Nat.le_refl _) (RE.leaf n10 n10.heap.size 0 1 2) (RE.leaf n10 n10.heap.size 0 3 1))
  have hbl1 := (Below.refl n10.heap.size n10).alloc (Nat.le_refl _) (.cells #[.int .i64 1, .int .i64 2, .slice none 0 0, .int .i64 3, .int .i64 1, .slice none 0 0] 25)
  have hzl1 : n10.heap.size + 1 ≤ (n10.alloc (.cells #[.int .i64 1, .int .i64 2, .slice none 0 0, .int .i64 3, .int .i64 1, .slice none 0 0] 25)).heap.size := by simp
  have hzp1 := hd1.size
  have Hrp1 := hide (Hpr1.out.below (hd1.mono hzl1))
  have Hvp1 := hide ((((Hrv1.out.below (hbl1.mono (by omega))).below (hd1.mono (by omega)))).more (B' := n10.heap.size + 1) (by omega))
  have Hbp1 := hide ((Below.refl w.heap.size w).trans (((((Hb1.out).trans (Hc10.out.mono (by omega))).trans ((hbl1.trans (hd1.mono (by omega))).mono (by omega)))).mono (by omega)))
  have hzz1 : n10.heap.size + 1 ≤ p1.heap.size := Nat.le_trans hzl1 hzp1
  clear hbl1 hzl1 hzp1 hd1 Hpr1 Hrv1
  go_wp2_with fail
  refine (dval_any (n10.heap.size + 1) _ 2 2 Dom.twoL (1 + 1 + 1) 12 0 _ 2 2 exA 5 0 p1 (by unfold maxLen; decide) (by omega) (by unfold maxLen; decide) hzz1 Hrp1.out Hvp1.out Dom.two_nm).mono ?_
  rintro e y1 ⟨rfl, hr1⟩
  rw [exA_val]
  have hzy1 := hr1.size
  have Hby1 := hide (Hbp1.out.trans (hr1.mono (by have := Hbp1.out.size; omega)))
  have hsy1 := Hby1.out.size
  clear hr1 Hbp1 Hvp1 Hrp1
  simp only
  go_wp2_with fail
  refine (vars_any _).mono ?_
  rintro e v2 ⟨rfl, hb2, hz2, hv2⟩
  have Hv2 := hide hv2
  have Hb2 := hide hb2
  clear hv2 hb2
  go_wp2_with fail
  refine (num_any _ _).mono ?_
  rintro e n20 ⟨rfl, hc20⟩
  have Hc20 := hide hc20
  have hy20 := hc20.size
  clear hc20
  go_wp2_with fail
  refine (num_any _ _).mono ?_
  rintro e n21 ⟨rfl, hc21⟩
  have Hc21 := hide hc21
  have hy21 := hc21.size
  clear hc21
  go_wp2_with fail
  refine (op_any _ _ _ _ _).mono ?_
  rintro e p2 ⟨rfl, hd2⟩
  have Hrv2 := hide (((Hv2.out).below (Hc20.out.mono (by omega))).below (Hc21.out.mono (by omega)))
  have Hpr2 := hide (pair_re (w := n21) (x := 12) (Nat.le_refl _) (RE.leaf n21 n21.heap.size 0 1 1000) (RE.leaf n21 n21.heap.size 0 1 1))
  have hbl2 := (Below.refl n21.heap.size n21).alloc (Nat.le_refl _) (.cells #[.int .i64 1, .int .i64 1000, .slice none 0 0, .int .i64 1, .int .i64 1, .slice none 0 0] 25)
  have hzl2 : n21.heap.size + 1 ≤ (n21.alloc (.cells #[.int .i64 1, .int .i64 1000, .slice none 0 0, .int .i64 1, .int .i64 1, .slice none 0 0] 25)).heap.size := by simp
  have hzp2 := hd2.size
  have Hrp2 := hide (Hpr2.out.below (hd2.mono hzl2))
  have Hvp2 := hide ((((Hrv2.out.below (hbl2.mono (by omega))).below (hd2.mono (by omega)))).more (B' := n21.heap.size + 1) (by omega))
  have Hbp2 := hide ((Hby1.out).trans ((((((Hb2.out).trans (Hc20.out.mono (by omega))).trans (Hc21.out.mono (by omega))).trans ((hbl2.trans (hd2.mono (by omega))).mono (by omega)))).mono (by omega)))
  have hzz2 : n21.heap.size + 1 ≤ p2.heap.size := Nat.le_trans hzl2 hzp2
  clear hbl2 hzl2 hzp2 hd2 Hpr2 Hrv2
  go_wp2_with fail
  refine (dval_any (n21.heap.size + 1) _ 2 2 Dom.twoL (1 + 1 + 1) 12 0 _ 2 2 exB 0 0 p2 (by unfold maxLen; decide) (by omega) (by unfold maxLen; decide) hzz2 Hrp2.out Hvp2.out Dom.two_nm).mono ?_
  rintro e y2 ⟨rfl, hr2⟩
  rw [exB_val]
  have hzy2 := hr2.size
  have Hby2 := hide (Hbp2.out.trans (hr2.mono (by have := Hbp2.out.size; omega)))
  have hsy2 := Hby2.out.size
  clear hr2 Hbp2 Hvp2 Hrp2
  simp only
  go_wp2_with fail
  refine (vars_any _).mono ?_
  rintro e v3 ⟨rfl, hb3, hz3, hv3⟩
  have Hv3 := hide hv3
  have Hb3 := hide hb3
  clear hv3 hb3
  go_wp2_with fail
  refine (num_any _ _).mono ?_
  rintro e n30 ⟨rfl, hc30⟩
  have Hc30 := hide hc30
  have hy30 := hc30.size
  clear hc30
  go_wp2_with fail
  refine (num_any _ _).mono ?_
  rintro e n31 ⟨rfl, hc31⟩
  have Hc31 := hide hc31
  have hy31 := hc31.size
  clear hc31
  go_wp2_with fail
  refine (op_any _ _ _ _ _).mono ?_
  rintro e p3 ⟨rfl, hd3⟩
  have Hrv3 := hide (((Hv3.out).below (Hc30.out.mono (by omega))).below (Hc31.out.mono (by omega)))
  have Hpr3 := hide (pair_re (w := n31) (x := 10) (Nat.le_refl _) (RE.leaf n31 n31.heap.size 0 1 1) (RE.leaf n31 n31.heap.size 0 1 2))
  have hbl3 := (Below.refl n31.heap.size n31).alloc (Nat.le_refl _) (.cells #[.int .i64 1, .int .i64 1, .slice none 0 0, .int .i64 1, .int .i64 2, .slice none 0 0] 25)
  have hzl3 : n31.heap.size + 1 ≤ (n31.alloc (.cells #[.int .i64 1, .int .i64 1, .slice none 0 0, .int .i64 1, .int .i64 2, .slice none 0 0] 25)).heap.size := by simp
  have hzp3 := hd3.size
  have Hrp3 := hide (Hpr3.out.below (hd3.mono hzl3))
  have Hvp3 := hide ((((Hrv3.out.below (hbl3.mono (by omega))).below (hd3.mono (by omega)))).more (B' := n31.heap.size + 1) (by omega))
  have Hbp3 := hide ((Hby2.out).trans ((((((Hb3.out).trans (Hc30.out.mono (by omega))).trans (Hc31.out.mono (by omega))).trans ((hbl3.trans (hd3.mono (by omega))).mono (by omega)))).mono (by omega)))
  have hzz3 : n31.heap.size + 1 ≤ p3.heap.size := Nat.le_trans hzl3 hzp3
  clear hbl3 hzl3 hzp3 hd3 Hpr3 Hrv3
  go_wp2_with fail
  refine (dtrue_any (n31.heap.size + 1) _ 2 2 Dom.twoL (1 + 1 + 1) 10 0 _ 2 2 exC 0 0 p3 (by unfold maxLen; decide) (by omega) (by unfold maxLen; decide) hzz3 Hrp3.out Hvp3.out Dom.two_nm).mono ?_
  rintro e y3 ⟨rfl, hr3⟩
  rw [exC_true]
  have hzy3 := hr3.size
  have Hby3 := hide (Hbp3.out.trans (hr3.mono (by have := Hbp3.out.size; omega)))
  have hsy3 := Hby3.out.size
  clear hr3 Hbp3 Hvp3 Hrp3
  simp only
  go_wp2_with fail
  go_ret
  exact ⟨rfl, Hby3.out⟩
end Go.Proofs.Ytkjclofkfmkbdaa
