/- The walks of the statements' own vars and awake; contracts within regions that draw their order. -/
import Derived.Test.YtdjllpejonfpgaaSDev
namespace Go.Proofs.Ytdjllpejonfpgaa
open Go.RowKit Ex
open Go.Sort (grow)
set_option linter.unusedSimpArgs false
set_option linter.unusedVariables false

def VarsPost (w : World) (e : Ending) (w' : World) : Prop := e = .returned (.slice (some ⟨w.heap.size, 0, none⟩) 2 2) ∧ w' = w.alloc (.cells Dom.twoCells 41)
set_option maxHeartbeats 400000 in
theorem vars_any (w : World) : Calls Try.prog 19 #[] w (VarsPost w) := by
  go_enter Try.func19, Try.ntmps19
  go_wp2_with fail
  go_ret
  exact ⟨rfl, rfl⟩
def exA : T := .mk 10 0 [.mk 1 1 [], .mk 3 1 []]
def exB : T := .mk 5 0 [.mk 3 1 []]
def exC : T := .mk 4 0 []
theorem exA_sort : sortE Dom.twoL exA = (1, 0) := by decide +kernel
theorem exB_sort : sortE Dom.twoL exB = (0, 4) := by decide +kernel
theorem exC_need : needE Dom.twoL exC 1 true false true = 5 := by decide +kernel
theorem exA_re (w : World) : RE (w.alloc (.cells #[.int .i64 1, .int .i64 1, .slice none 0 0, .int .i64 3, .int .i64 1, .slice none 0 0] 25)) (w.heap.size + 1) 2 10 0 (some ⟨w.heap.size, 0, none⟩) 2 2 exA := by
  refine RE.node rfl (by omega) (by unfold maxLen; omega) (by omega) (fun k u hu => ?_)
  match k, hu with
  | 0, hu => simp at hu; subst hu; exact ⟨1, 1, none, 0, 0, by simp [CellE, go_sem], RE.leaf _ _ _ _ _⟩
  | 1, hu => simp at hu; subst hu; exact ⟨3, 1, none, 0, 0, by simp [CellE, go_sem], RE.leaf _ _ _ _ _⟩
  | k + 2, hu => simp at hu
theorem exB_re (w : World) : RE (w.alloc (.cells #[.int .i64 3, .int .i64 1, .slice none 0 0] 25)) (w.heap.size + 1) 2 5 0 (some ⟨w.heap.size, 0, none⟩) 1 1 exB := by
  refine RE.node rfl (by omega) (by unfold maxLen; omega) (by omega) (fun k u hu => ?_)
  match k, hu with
  | 0, hu => simp at hu; subst hu; exact ⟨3, 1, none, 0, 0, by simp [CellE, go_sem], RE.leaf _ _ _ _ _⟩
  | k + 1, hu => simp at hu

set_option maxHeartbeats 1000000 in
theorem awake_any (w : World) : Calls Try.prog 9 #[] w fun e w' => e = .returned (.bool true) ∧ Below w.heap.size w w' := by
  go_enter Try.func9, Try.ntmps9
  go_wp2_with fail
  refine (vars_any _).mono ?_
  rintro e w1 ⟨rfl, hw1⟩
  have hb1 : Below w.heap.size w w1 := by rw [hw1]; exact (Below.refl _ _).alloc (Nat.le_refl _) _
  have hz1a : w.heap.size + 1 ≤ w1.heap.size := by rw [hw1]; simp
  have hz1b : w1.heap.size ≤ w.heap.size + 1 := by rw [hw1]; simp
  have hv1 : Dom.RV w1 (w.heap.size + 1) (some ⟨w.heap.size, 0, none⟩) 2 Dom.twoL := by rw [hw1]; exact Dom.two_rv w
  have Hb1 := hide hb1
  have Hv1 := hide hv1
  clear hw1 hb1 hv1
  have hbA : Below w1.heap.size w1 (w1.alloc (.cells #[.int .i64 1, .int .i64 1, .slice none 0 0, .int .i64 3, .int .i64 1, .slice none 0 0] 25)) := (Below.refl _ _).alloc (Nat.le_refl _) _
  have HbA := hide hbA
  have HrA := hide (exA_re w1)
  clear hbA
  go_wp2_with fail
  refine (of_any (w1.heap.size + 1) _ 2 2 Dom.twoL 2 10 0 _ 2 2 exA _ (by unfold maxLen; decide) (by omega) (by unfold maxLen; decide) (by simp) HrA.out ((Hv1.out.below (HbA.out.mono (by omega))).more (by omega)) Dom.two_nm).mono ?_
  rintro e w2 ⟨rfl, hb2⟩
  rw [exA_sort]
  have hz2 := hb2.size
  have hz2' : w1.heap.size + 1 ≤ w2.heap.size := by simpa using hz2
  have Hb2 := hide (Hb1.out.trans ((HbA.out.trans (hb2.mono (by simp))).mono (by omega)))
  clear hb2 HbA HrA Hb1 Hv1 hz2
  simp only
  go_wp2_with fail
  refine (vars_any _).mono ?_
  rintro e w3 ⟨rfl, hw3⟩
  have hb3 : Below w2.heap.size w2 w3 := by rw [hw3]; exact (Below.refl _ _).alloc (Nat.le_refl _) _
  have hz3a : w2.heap.size + 1 ≤ w3.heap.size := by rw [hw3]; simp
  have hz3b : w3.heap.size ≤ w2.heap.size + 1 := by rw [hw3]; simp
  have hv3 : Dom.RV w3 (w2.heap.size + 1) (some ⟨w2.heap.size, 0, none⟩) 2 Dom.twoL := by rw [hw3]; exact Dom.two_rv w2
  have Hb3 := hide (Hb2.out.trans (hb3.mono (by omega)))
  have Hv3 := hide hv3
  clear hw3 hb3 hv3 Hb2
  have hbB : Below w3.heap.size w3 (w3.alloc (.cells #[.int .i64 3, .int .i64 1, .slice none 0 0] 25)) := (Below.refl _ _).alloc (Nat.le_refl _) _
  have HbB := hide hbB
  have HrB := hide (exB_re w3)
  clear hbB
  go_wp2_with fail
  refine (of_any (w3.heap.size + 1) _ 2 2 Dom.twoL 2 5 0 _ 1 1 exB _ (by unfold maxLen; decide) (by omega) (by unfold maxLen; decide) (by simp) HrB.out ((Hv3.out.below (HbB.out.mono (by omega))).more (by omega)) Dom.two_nm).mono ?_
  rintro e w4 ⟨rfl, hb4⟩
  rw [exB_sort]
  have hz4 := hb4.size
  have hz4' : w3.heap.size + 1 ≤ w4.heap.size := by simpa using hz4
  have Hb4 := hide (Hb3.out.trans ((HbB.out.trans (hb4.mono (by simp))).mono (by omega)))
  clear hb4 HbB HrB Hb3 Hv3 hz4
  simp only
  go_wp2_with fail
  refine (vars_any _).mono ?_
  rintro e w5 ⟨rfl, hw5⟩
  have hb5 : Below w4.heap.size w4 w5 := by rw [hw5]; exact (Below.refl _ _).alloc (Nat.le_refl _) _
  have hz5a : w4.heap.size + 1 ≤ w5.heap.size := by rw [hw5]; simp
  have hz5b : w5.heap.size ≤ w4.heap.size + 1 := by rw [hw5]; simp
  have hv5 : Dom.RV w5 (w4.heap.size + 1) (some ⟨w4.heap.size, 0, none⟩) 2 Dom.twoL := by rw [hw5]; exact Dom.two_rv w4
  have Hb5 := hide (Hb4.out.trans (hb5.mono (by omega)))
  have Hv5 := hide hv5
  clear hw5 hb5 hv5 Hb4
  go_wp2_with fail
  refine (needs_any (w4.heap.size + 1) _ 2 2 Dom.twoL 1 4 0 none 0 0 exC 1 true false true w5 (by unfold maxLen; decide) (by omega) (by unfold maxLen; decide) (by omega) (RE.leaf _ _ _ _ _) Hv5.out Dom.two_nm).mono ?_
  rintro e w6 ⟨rfl, hb6⟩
  rw [exC_need]
  have Hb6 := hide (Hb5.out.trans (hb6.mono (by omega)))
  clear hb6 Hb5 Hv5
  go_wp2_with fail
  go_ret
  exact ⟨rfl, Hb6.out⟩

/- contracts within a region that draws its order -/
section
variable {W : World} {B d : Nat} {Av : Option Addr} {nv cv : Nat} {lv : List Dom.V} {op n : Int} {A : Option Addr} {len cap : Nat} {t : T} {want : Int} {now env sys : Bool} {dd : Nat} {os : Array Obj}
def OkV (nv cv : Nat) (lv : List Dom.V) : Prop := nv ≤ maxLen ∧ nv ≤ cv ∧ cv ≤ maxLen ∧ ∀ v ∈ lv, v.nm.size ≤ maxLen
theorem q_rv (hB : B ≤ W.heap.size) (Hrv : Hid (Dom.RV W B Av nv lv)) : Dom.RV (grow (redrawn W dd) os) B Av nv lv := Hrv.out.below ((below_regrown W dd os).mono hB)
theorem q_vheavy (hB : B ≤ W.heap.size) (Ho : Hid (OkV nv cv lv)) (Hrv : Hid (Dom.RV W B Av nv lv)) : Calls Try.prog 7 #[.slice Av nv cv] (grow (redrawn W dd) os) fun e w'' => e = .returned (.int .i64 (Dom.heavyGo 0 lv)) ∧ ∃ p : Regrown, w'' = grow (redrawn W p.d) p.os :=
  Calls.regrown_of (Dom.heavy_any Av nv cv B lv _ Ho.out.1 (Nat.le_trans hB (below_regrown W dd os).size) (q_rv hB Hrv) Ho.out.2.2.2)
theorem q_rmayV (hB : B ≤ W.heap.size) (Ho : Hid (OkV nv cv lv)) (Hrv : Hid (Dom.RV W B Av nv lv)) : Calls Try.prog 14 #[.slice Av nv cv] (grow (redrawn W dd) os) fun e w'' => e = .returned (.int .i64 (Dom.mayL lv)) ∧ ∃ p : Regrown, w'' = grow (redrawn W p.d) p.os :=
  Calls.regrown_of (Dom.rmay_any Av nv cv B lv _ Ho.out.1 Ho.out.2.1 Ho.out.2.2.1 (Nat.le_trans hB (below_regrown W dd os).size) (q_rv hB Hrv) Ho.out.2.2.2)
theorem q_rmayE (hB : B ≤ W.heap.size) (Hre : Hid (RE W B d op n A len cap t)) : Calls Try.prog 15 #[.agg #[.int .i64 op, .int .i64 n, .slice A len cap]] (grow (redrawn W dd) os) fun e w'' => e = .returned (.int .i64 (mayE t)) ∧ ∃ p : Regrown, w'' = grow (redrawn W p.d) p.os :=
  Calls.regrown_of (rmay_any B d op n A len cap t _ (q_re hB Hre).1 (q_re hB Hre).2)
theorem q_needs (hB : B ≤ W.heap.size) (Ho : Hid (OkV nv cv lv)) (Hrv : Hid (Dom.RV W B Av nv lv)) (Hre : Hid (RE W B d op n A len cap t)) : Calls Try.prog 12 #[.slice Av nv cv, .agg #[.int .i64 op, .int .i64 n, .slice A len cap], .int .i64 want, .bool now, .bool env, .bool sys] (grow (redrawn W dd) os) fun e w'' => e = .returned (.int .i64 (needE lv t want now env sys)) ∧ ∃ p : Regrown, w'' = grow (redrawn W p.d) p.os :=
  Calls.regrown_of (needs_any B Av nv cv lv d op n A len cap t want now env sys _ Ho.out.1 Ho.out.2.1 Ho.out.2.2.1 (q_re hB Hre).1 (q_re hB Hre).2 (q_rv hB Hrv) Ho.out.2.2.2)
theorem q_rneeds (hB : B ≤ W.heap.size) (Ho : Hid (OkV nv cv lv)) (Hrv : Hid (Dom.RV W B Av nv lv)) (Hre : Hid (RE W B d op n A len cap t)) : Calls Try.prog 13 #[.slice Av nv cv, .agg #[.int .i64 op, .int .i64 n, .slice A len cap], .int .i64 want, .bool now, .bool env, .bool sys] (grow (redrawn W dd) os) fun e w'' => e = .returned (.int .i64 (needE lv t want now env sys)) ∧ ∃ p : Regrown, w'' = grow (redrawn W p.d) p.os :=
  Calls.regrown_of (rneeds_any B Av nv cv lv d op n A len cap t want now env sys _ Ho.out.1 Ho.out.2.1 Ho.out.2.2.1 (q_re hB Hre).1 (q_re hB Hre).2 (q_rv hB Hrv) Ho.out.2.2.2)
theorem q_awake3 : Calls Try.prog 9 #[] (grow (redrawn W dd) os) fun e w'' => e = .returned (.bool true) ∧ ∃ p : Regrown, w'' = grow (redrawn W p.d) p.os :=
  Calls.regrown_of (awake_any _)
end
theorem vheavy_le : ∀ (l : List Dom.V) (i : Nat), i ≤ 10 → Dom.heavyGo i l ≤ 11
  | [], i, h => by simp [Dom.heavyGo]
  | v :: r, i, h => by
    rw [Dom.heavyGo]; split
    · omega
    · rename_i h1
      exact vheavy_le r (i + 1) (by omega)
theorem vheavy_bd (l : List Dom.V) : 0 ≤ Dom.heavyGo 0 l ∧ Dom.heavyGo 0 l ≤ 11 := ⟨Dom.heavy_nonneg l 0, vheavy_le l 0 (by omega)⟩
end Go.Proofs.Ytdjllpejonfpgaa
