/- arena.Where. -/
import Derived.Test.YtbppdalfcldodaaGreatALaw
import Derived.Test.YtbppdalfcldodaaGreatGRows
import Derived.Test.YtbppdalfcldodaaGreatGFold
import Derived.Test.YtbppdalfcldodaaGreatGDev
set_option maxRecDepth 100000
namespace Go.Proofs.YtbppdalfcldodaaGreat
open Go.RowKit Ex
set_option linter.unusedSimpArgs false
set_option linter.unusedVariables false

def whAt (m : MT) (t : T) (l : List Vx) (i : Nat) : Bool := ((l.getD i (0, 0, 0)).1 == 3) && trueE m.vars t (l.getD i (0, 0, 0)).2.1 (l.getD i (0, 0, 0)).2.1
def whL (m : MT) (t : T) (l : List Vx) : List Bool := if modE m = 0 then (List.range l.length).map (whAt m t l) else []
/- a row of marks is handed back, in blocks that are new -/
def WhPost (w : World) (l : List Bool) (e : Ending) (w' : World) : Prop := ∃ s : Gr.SL, e = .returned s.v ∧ Gr.RB w' w'.heap.size s l ∧ (∀ ad, s.A = some ad → w.heap.size ≤ ad.block) ∧ Below w.heap.size w w'
set_option maxHeartbeats 4000000 in
theorem dwhere_any (B : Nat) (x : M8) (m : MT) (O N : Gr.SL) (AA : Option Addr) (L ac : Nat) (l : List Vx) (d : Nat) (op n : Int) (A : Option Addr) (len cap : Nat) (t : T) (w : World) (hB : B ≤ w.heap.size) (hrm : RM w B x m) (hrv : RVx w B ⟨AA, L, ac⟩ l) (hL : L ≤ 3000) (hre : RE w B d op n A len cap t) :
    Calls Tryz.prog 17 #[.agg x.cells, .agg #[O.v, N.v, .slice AA L ac], .agg #[.int .i64 op, .int .i64 n, .slice A len cap]] w (WhPost w (whL m t l)) := by
  have hb1 : Below w.heap.size w (w.alloc (.cells x.cells 28)) := (Below.refl _ _).alloc (Nat.le_refl _) _
  have hb2 : Below w.heap.size w ((w.alloc (.cells x.cells 28)).alloc (.cells #[O.v, N.v, .slice AA L ac] 38)) := hb1.alloc (by simp) _
  have hbx : Below w.heap.size w (((w.alloc (.cells x.cells 28)).alloc (.cells #[O.v, N.v, .slice AA L ac] 38)).alloc (.cells #[.int .i64 op, .int .i64 n, .slice A len cap] 25)) := hb2.alloc (by simp; omega) _
  have Hrm := hide (hrm.below (hbx.mono hB))
  have Hrv := hide (hrv.below (hbx.mono hB))
  have Hre := hide (hre.below (hbx.mono hB))
  have hz0 : (((w.alloc (.cells x.cells 28)).alloc (.cells #[O.v, N.v, .slice AA L ac] 38)).alloc (.cells #[.int .i64 op, .int .i64 n, .slice A len cap] 25)).heap.size = w.heap.size + 3 := by simp
  have Hbm := hide (((boxM_new w x).below (((Below.refl _ _).alloc (Nat.le_refl _) (.cells #[O.v, N.v, .slice AA L ac] 38)).alloc (by simp) (.cells #[.int .i64 op, .int .i64 n, .slice A len cap] 25)) (by simp)))
  have Hba : Hid ((((w.alloc (.cells x.cells 28)).alloc (.cells #[O.v, N.v, .slice AA L ac] 38)).alloc (.cells #[.int .i64 op, .int .i64 n, .slice A len cap] 25)).heap[w.heap.size + 1]? = some (.cells #[O.v, N.v, .slice AA L ac] 38 (0, 0))) := hide (up_at (new_at (by simp)))
  have Hbe : Hid ((((w.alloc (.cells x.cells 28)).alloc (.cells #[O.v, N.v, .slice AA L ac] 38)).alloc (.cells #[.int .i64 op, .int .i64 n, .slice A len cap] 25)).heap[w.heap.size + 2]? = some (.cells #[.int .i64 op, .int .i64 n, .slice A len cap] 25 (0, 0))) := hide (new_at (by simp))
  clear hrm hrv hre hb1 hb2
  obtain ⟨⟨vA, vn, vc⟩, ⟨io, im, iA, il, ic⟩, ⟨jo, jm, jA, jl, jc⟩, ⟨eA, en, ec⟩, ⟨sA, sn, sc⟩, ⟨aA, an, ac2⟩, ⟨nA, nn, nc⟩, ⟨pA, pn, pc⟩⟩ := x
  obtain ⟨OA, on, oc⟩ := O
  obtain ⟨NA, nn2, nc2⟩ := N
  simp only [M8.cells, SL.v, Gr.SL.v] at *
  obtain ⟨q0, q1, q2, q3, q4, q5, q6, q7, q8, q9, q10, q11⟩ := row12 Hbm.out
  simp only at q0 q1 q2 q3 q4 q5 q6 q7 q8 q9 q10 q11
  go_enter Tryz.func17, Tryz.ntmps17
  go_wp2_with fail
  clear q0 q1 q2 q3 q4 q5 q6 q7 q8 q9 q10 q11
  generalize ((w.alloc (.cells #[.slice vA vn vc, .int .i64 io, .int .i64 im, .slice iA il ic, .int .i64 jo, .int .i64 jm, .slice jA jl jc, .slice eA en ec, .slice sA sn sc, .slice aA an ac2, .slice nA nn nc, .slice pA pn pc] 28)).alloc (.cells #[.slice OA on oc, .slice NA nn2 nc2, .slice AA L ac] 38)).alloc (.cells #[.int .i64 op, .int .i64 n, .slice A len cap] 25) = w1 at *
  refine (dmod_any B ⟨⟨vA, vn, vc⟩, ⟨io, im, iA, il, ic⟩, ⟨jo, jm, jA, jl, jc⟩, ⟨eA, en, ec⟩, ⟨sA, sn, sc⟩, ⟨aA, an, ac2⟩, ⟨nA, nn, nc⟩, ⟨pA, pn, pc⟩⟩ m w1 (by omega) Hrm.out).mono ?_
  rintro e w2 ⟨rfl, hb2⟩
  have hz2 := hb2.size
  have Hbw2 := hide (hbx.trans (hb2.mono (by omega)))
  have Hrm2 := hide (Hrm.out.below (hb2.mono (by omega)))
  have Hrv2 := hide (Hrv.out.below (hb2.mono (by omega)))
  have Hre2 := hide (Hre.out.below (hb2.mono (by omega)))
  have c0 : Hid (w2.cell? ⟨w.heap.size, 0, none⟩ = some (.slice vA vn vc)) := hide ((hb2.cell (by show w.heap.size < _; omega)).trans (row12 Hbm.out).1)
  have Ha2 := hide ((hb2.block _ (by omega)).trans Hba.out)
  have He2 := hide ((hb2.block _ (by omega)).trans Hbe.out)
  clear hb2 Hrm Hrv Hre Hbm Hba Hbe hbx
  by_cases hm : modE m = 0
  · have hm' : (modE m != 0) = false := by simp [hm]
    have hl : l.length = L := Hrv2.out.1
    have Hd : Hid (whL m t l = (List.range L).map (whAt m t l)) := hide (by unfold whL; rw [if_pos hm, hl])
    clear hm
    have hmk := Gr.make_bools L (by omega)
    have Hrow := hide (Gr.mark_zero (f := whAt m t l) (World.rowIs_made w2 (.bool false) L 4))
    have hb23 : Below w2.heap.size w2 (w2.alloc (.cells (madeCells #[.bool false] L) 4)) := (Below.refl _ _).alloc (Nat.le_refl _) _
    have a2 : w2.cell? ⟨w.heap.size + 1, 2, none⟩ = some (.slice AA L ac) := blk Ha2.out rfl
    have a3 := (hb23.cell (p := ⟨w.heap.size + 1, 2, none⟩) (by show w.heap.size + 1 < _; omega)).trans a2
    go_wp2_with fail
    clear hmk a2 a3
    go_loopw [20] (fun i wr => ∃ k : Nat, k ≤ L ∧ i = .int .i64 k ∧ wr.rowIs w2.heap.size 4 L (Gr.markV (whAt m t l) k) ∧ Below w2.heap.size w2 wr) (fun i _ => L - (intOf i).toNat)
    case atStart => exact ⟨0, Nat.zero_le _, rfl, Hrow.out, hb23⟩
    case round =>
      obtain ⟨k, hk, rfl, hrw, hb⟩ := hrel
      have hzr := hb.size
      have Hrw := hide hrw
      by_cases hlt : k < L
      · have hlt' : (k : Int) < (L : Int) := by omega
        obtain ⟨pb, po, p, q, r, ePs, hpb, hpk, cp, cq, cr⟩ := RVx.at_ (Hrv2.out.below (hb.mono (by omega))) hlt
        subst ePs
        have Hat : Hid (whAt m t l k = ((p == 3) && trueE m.vars t q q)) := hide (by unfold whAt; rw [Gr.getD_at hpk])
        have hbA := (Below.refl wr.heap.size wr).alloc (Nat.le_refl _) (.cells #[.int .i64 p, .int .i64 q, .int .i64 r] 57)
        have HbA := hide hbA
        obtain ⟨d0, d1, d2⟩ := box57 wr p q r 57
        have hlt2 := Hrw.out.lt
        have hrwA := Hrw.out.alloc (.cells #[.int .i64 p, .int .i64 q, .int .i64 r] 57)
        have HbB := hide (hb.trans (hbA.mono hzr))
        have hzA : (wr.alloc (.cells #[.int .i64 p, .int .i64 q, .int .i64 r] 57)).heap.size = wr.heap.size + 1 := by simp
        have Hlt := hide hlt
        by_cases hp : p = 3
        · subst hp
          have e0 : (wr.alloc (.cells #[.int .i64 3, .int .i64 q, .int .i64 r] 57)).cell? ⟨w.heap.size, 0, none⟩ = some (.slice vA vn vc) := (HbB.out.cell (by show w.heap.size < _; omega)).trans c0.out
          have hE := (HbB.out.block (w.heap.size + 2) (by omega)).trans He2.out
          have e1 : (wr.alloc (.cells #[.int .i64 3, .int .i64 q, .int .i64 r] 57)).cell? ⟨w.heap.size + 2, 0, none⟩ = some (.int .i64 op) := blk hE rfl
          have e2 : (wr.alloc (.cells #[.int .i64 3, .int .i64 q, .int .i64 r] 57)).cell? ⟨w.heap.size + 2, 1, none⟩ = some (.int .i64 n) := blk hE rfl
          have e3 : (wr.alloc (.cells #[.int .i64 3, .int .i64 q, .int .i64 r] 57)).cell? ⟨w.heap.size + 2, 2, none⟩ = some (.slice A len cap) := blk hE rfl
          clear hrw hpk hE
          have HrwA := hide hrwA
          clear hrwA
          go_wp2_with fail
          clear d0 d1 d2 e0 e1 e2 e3 cp cq cr
          obtain ⟨ho1, ho2, ho3, ho4⟩ := Hrm2.out.1
          refine (dtrue_any B vA vn vc m.vars d op n A len cap t q q _ (by exact Nat.le_trans ho2 ho3) ho2 ho3 (by omega) (Hre2.out.below (HbB.out.mono (by omega))) (Hrm2.out.2.1.below (HbB.out.mono (by omega))) ho4).mono ?_
          rintro e w5 ⟨rfl, hb5⟩
          have hz5 := hb5.size
          have hrw5 := HrwA.out.of_block (hb5.block _ (by omega))
          have hb25 := HbB.out.trans (hb5.mono (by omega))
          obtain ⟨u0, hu0⟩ : ∃ u, w5.cell? ⟨w2.heap.size, k, none⟩ = some u := ⟨_, hrw5.cell Hlt.out⟩
          have hfz := hrw5.frozen k
          have Hst := hide (Gr.mark_step hrw5 (v := trueE m.vars t q q) (by rw [Hat.out]; rfl))
          have Hb3 := hide (hb25.setCell (p := ⟨w2.heap.size, k, none⟩) (Nat.le_refl _) (.bool (trueE m.vars t q q)))
          clear hrw5 hb25 hb5
          generalize trueE m.vars t q q = tv at *
          cases tv
          all_goals
            go_wp2_with fail
            go_roundw
            case rel => exact ⟨k + 1, by have := Hlt.out; omega, by go_num, Hst.out, Hb3.out⟩
            case measure => have := Hlt.out; simp [intOf]; omega
        · have hpb3 : (p == 3) = false := by simp [hp]
          obtain ⟨u0, hu0⟩ : ∃ u, (wr.alloc (.cells #[.int .i64 p, .int .i64 q, .int .i64 r] 57)).cell? ⟨w2.heap.size, k, none⟩ = some u := ⟨_, hrwA.cell hlt⟩
          have hfz := hrwA.frozen k
          have Hst := hide ((Gr.mark_step hrw (v := false) (by rw [Hat.out, hpb3]; rfl)).alloc (.cells #[.int .i64 p, .int .i64 q, .int .i64 r] 57))
          have Hb3 := hide ((hb.setCell (p := ⟨w2.heap.size, k, none⟩) (Nat.le_refl _) (.bool false)).alloc (by simp [World.setCell]; omega) (.cells #[.int .i64 p, .int .i64 q, .int .i64 r] 57))
          clear hrw hrwA hpk
          go_wp2_with fail
          go_roundw
          case rel => exact ⟨k + 1, by have := Hlt.out; omega, by go_num, Hst.out, Hb3.out⟩
          case measure => have := Hlt.out; simp [intOf]; omega
      · have hlt' : ¬ (k : Int) < (L : Int) := by omega
        obtain rfl : k = L := by omega
        have hbw := Hbw2.out.trans (hb.mono (by omega))
        clear hrw
        go_wp2_with fail
        go_ret
        exact ⟨⟨_, _, _⟩, rfl, by rw [Hd.out]; exact Gr.mark_done Hrw.out (by unfold maxLen; omega), (fun ad h => by injection h with h; subst h; show w.heap.size ≤ w2.heap.size; omega), hbw⟩
  · have hm' : (modE m != 0) = true := by simp [hm]
    have Hd : Hid (whL m t l = []) := hide (by unfold whL; rw [if_neg hm])
    clear hm
    go_wp2_with fail
    go_ret
    rw [Hd.out]
    exact ⟨⟨none, 0, 0⟩, rfl, Gr.rows_nil _ _ _, (fun ad h => by cases h), Hbw2.out⟩
end Go.Proofs.YtbppdalfcldodaaGreat
