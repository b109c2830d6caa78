/- The program's choice: steps. -/
import Derived.Test.YtbppdalfcldodaaGreatCDevD
set_option maxRecDepth 100000
namespace Go.Proofs.YtbppdalfcldodaaGreat
open Go.RowKit Ex
open Go.Sort (grow)
set_option linter.unusedSimpArgs false
set_option linter.unusedVariables false

def BoxS (w : World) (g : Nat) (k : Int) (p : Bool) (op n : Int) (A : Option Addr) (len cap : Nat) : Prop := w.cell? ⟨g, 0, none⟩ = some (.int .i64 k) ∧ w.cell? ⟨g, 1, none⟩ = some (.bool p) ∧ w.cell? ⟨g, 2, none⟩ = some (.int .i64 op) ∧ w.cell? ⟨g, 3, none⟩ = some (.int .i64 n) ∧ w.cell? ⟨g, 4, none⟩ = some (.slice A len cap)
theorem boxS_new (w : World) (k : Int) (p : Bool) (op n : Int) (A : Option Addr) (len cap : Nat) (t : TypeId) : BoxS (w.alloc (.cells #[.int .i64 k, .bool p, .int .i64 op, .int .i64 n, .slice A len cap] t)) w.heap.size k p op n A len cap :=
  ⟨cell_of_row _ _ 0 _ t (0, 0) (heap_alloc_new w _), cell_of_row _ _ 1 _ t (0, 0) (heap_alloc_new w _), cell_of_row _ _ 2 _ t (0, 0) (heap_alloc_new w _), cell_of_row _ _ 3 _ t (0, 0) (heap_alloc_new w _), cell_of_row _ _ 4 _ t (0, 0) (heap_alloc_new w _)⟩
theorem BoxS.below {w w' : World} {B g : Nat} {k : Int} {p : Bool} {op n : Int} {A : Option Addr} {len cap : Nat} (h : BoxS w g k p op n A len cap) (hb : Below B w w') (hB : g < B) : BoxS w' g k p op n A len cap :=
  ⟨(hb.cell hB).trans h.1, (hb.cell hB).trans h.2.1, (hb.cell hB).trans h.2.2.1, (hb.cell hB).trans h.2.2.2.1, (hb.cell hB).trans h.2.2.2.2⟩

set_option maxHeartbeats 1000000 in
theorem steps_any (B : Nat) (Av : Option Addr) (nv cv : Nat) (lv : List Dom.V) (now nx b : Int) (k : Nat) (p : Bool) (t : T) (d : Nat) (op n : Int) (A : Option Addr) (len cap : Nat) (w : World) (ho : OkVars ⟨Av, nv, cv⟩ lv) (hB : B ≤ w.heap.size)
    (hrv : Dom.RV w B Av nv lv) (hre : RE w B d op n A len cap t) (hM : Dom.mayL lv = 0) (h0 : 0 ≤ b) (h1 : b < Dom.totL lv) (hk : k < lv.length) :
    Calls Tryz.prog 89 #[.agg #[.slice Av nv cv, .int .i64 now, .int .i64 nx, .int .i64 b], .agg #[.int .i64 (k : Int), .bool p, .int .i64 op, .int .i64 n, .slice A len cap]] w (IntsPost w (stepsL lv now nx b ⟨(k : Int), p, t⟩)) := by
  have hbx : Below w.heap.size w (w.alloc (.cells #[.slice Av nv cv, .int .i64 now, .int .i64 nx, .int .i64 b] 93)) := (Below.refl _ _).alloc (Nat.le_refl _) _
  have Hbox := hide (boxT_new w Av nv cv now nx b 93)
  have hz0 : (w.alloc (.cells #[.slice Av nv cv, .int .i64 now, .int .i64 nx, .int .i64 b] 93)).heap.size = w.heap.size + 1 := by simp
  have Hrv := hide (hrv.below (hbx.mono hB))
  have Hre := hide (hre.below (hbx.mono hB))
  have Ho := hide ho
  have HM := hide hM
  obtain ⟨v, hv⟩ : ∃ v, lv[k]? = some v := ⟨_, List.getElem?_eq_getElem hk⟩
  have ht512 := (Dom.totL_bd lv).2
  have Hs : Hid (stepsL lv now nx b ⟨(k : Int), p, t⟩ = if p = true then allL lv b (k : Int) v else if (valE lv t now nx).2 = 0 then (if Dom.withOk lv b (k : Int) (valE lv t now nx).1 = true then [Dom.withV lv b (k : Int) (valE lv t now nx).1 - b] else []) else []) := hide (by
    unfold stepsL
    simp only [Int.toNat_natCast, hv])
  generalize stepsL lv now nx b ⟨(k : Int), p, t⟩ = out at *
  have Hbx := hide hbx
  clear hrv hre ho hM hbx
  have hbx2 := (Below.refl (w.heap.size + 1) (w.alloc (.cells #[.slice Av nv cv, .int .i64 now, .int .i64 nx, .int .i64 b] 93))).alloc (by omega) (.cells #[.int .i64 (k : Int), .bool p, .int .i64 op, .int .i64 n, .slice A len cap] 111)
  have Hset := hide (boxS_new (w.alloc (.cells #[.slice Av nv cv, .int .i64 now, .int .i64 nx, .int .i64 b] 93)) (k : Int) p op n A len cap 111)
  rw [hz0] at Hset
  have hz2 : ((w.alloc (.cells #[.slice Av nv cv, .int .i64 now, .int .i64 nx, .int .i64 b] 93)).alloc (.cells #[.int .i64 (k : Int), .bool p, .int .i64 op, .int .i64 n, .slice A len cap] 111)).heap.size = w.heap.size + 2 := by simp
  have Hbox2 := hide (Hbox.out.below hbx2 (by omega))
  have Hrv2 := hide (Hrv.out.below (hbx2.mono (by omega)))
  have Hre2 := hide (Hre.out.below (hbx2.mono (by omega)))
  have Hb2 := hide (Hbx.out.trans (hbx2.mono (by omega)))
  clear hbx2 Hbox Hrv Hre Hbx hz0
  obtain ⟨s0, s1, s2, s3, s4⟩ := Hset.out
  obtain ⟨q0, q1, q2, q3⟩ := Hbox2.out
  cases p
  · rw [if_neg (by simp)] at Hs
    go_enter Tryz.func89, Tryz.ntmps89
    go_wp2_with fail
    clear s0 s1 s2 s3 s4 q0 q1 q2 q3
    generalize (w.alloc (.cells #[.slice Av nv cv, .int .i64 now, .int .i64 nx, .int .i64 b] 93)).alloc (.cells #[.int .i64 (k : Int), .bool false, .int .i64 op, .int .i64 n, .slice A len cap] 111) = W at *
    refine (dval_any B Av nv cv lv d op n A len cap t now nx W Ho.out.1 Ho.out.2.1 Ho.out.2.2.1 (by omega) Hre2.out Hrv2.out Ho.out.2.2.2).mono ?_
    rintro e w1 ⟨rfl, hb1⟩
    have hz1 := hb1.size
    have Hb3 := hide (Hb2.out.trans (hb1.mono (by omega)))
    have Hrv3 := hide (Hrv2.out.below (hb1.mono (by omega)))
    have Hbox3 := hide (Hbox2.out.below hb1 (by omega))
    have Hset3 := hide (Hset.out.below hb1 (by omega))
    clear hb1 Hb2 Hrv2 Hre2 Hbox2 Hset
    generalize valE lv t now nx = r at *
    obtain ⟨r1, r2⟩ := r
    simp only at Hs ⊢
    by_cases hr : r2 = 0
    · have hrb : (r2 != 0) = false := by simp [hr]
      rw [if_pos hr] at Hs
      clear hr
      obtain ⟨s0, s1, s2, s3, s4⟩ := Hset3.out
      obtain ⟨q0, q1, q2, q3⟩ := Hbox3.out
      go_wp2_with fail
      clear s0 s1 s2 s3 s4 q0 q1 q2 q3
      refine (Dom.with_any Av nv cv B lv b (k : Int) r1 w1 Ho.out.1 (by omega) Hrv3.out Ho.out.2.2.2).mono ?_
      rintro e w2 ⟨rfl, hb2⟩
      have hz4 := hb2.size
      have Hb4 := hide (Hb3.out.trans (hb2.mono (by omega)))
      have Hbox4 := hide (Hbox3.out.below hb2 (by omega))
      clear hb2 Hb3 Hrv3 Hbox3 Hset3
      by_cases hok : Dom.withOk lv b (k : Int) r1 = true
      · rw [if_pos hok] at Hs
        obtain ⟨g1, g2, _⟩ := Dom.with_good hok
        rw [hok]
        clear hok
        generalize Dom.withV lv b (k : Int) r1 = wv at *
        obtain ⟨q0, q1, q2, q3⟩ := Hbox4.out
        have hw1 : wrap64 (wv - b) = wv - b := Dom.wrap64_mid _ (by omega) (by omega)
        go_wp2_with fail
        clear q0 q1 q2 q3
        go_ret
        rw [Hs.out]
        try rw [hw1]
        exact ⟨_, 1, 1, rfl, World.ownsRow_lit w2 #[.int .i64 (wv - b)] 1 (by have := Hb4.out.size; omega) (by unfold maxLen; omega) rfl, rfl, Hb4.out.alloc (by have := Hb4.out.size; omega) _⟩
      · rw [if_neg hok] at Hs
        have hokb : Dom.withOk lv b (k : Int) r1 = false := by simpa using hok
        rw [hokb]
        go_wp2_with fail
        go_ret
        rw [Hs.out]
        exact ints_none Hb4.out
    · have hrb : (r2 != 0) = true := by simp [hr]
      rw [if_neg hr] at Hs
      clear hr
      go_wp2_with fail
      go_ret
      rw [Hs.out]
      exact ints_none Hb3.out
  · rw [if_pos rfl] at Hs
    go_enter Tryz.func89, Tryz.ntmps89
    go_wp2_with fail
    clear s0 s1 s2 s3 s4 q0 q1 q2 q3
    generalize (w.alloc (.cells #[.slice Av nv cv, .int .i64 now, .int .i64 nx, .int .i64 b] 93)).alloc (.cells #[.int .i64 (k : Int), .bool true, .int .i64 op, .int .i64 n, .slice A len cap] 111) = W at *
    refine (all_any B Av nv cv lv now nx b k v W Ho.out (by omega) Hrv2.out HM.out h0 h1 hv).mono ?_
    intro e w1 hp
    obtain ⟨O4, n4, c4, rfl, p2, p3, p4⟩ := hp
    have Hp : Hid (IntsPost w (allL lv b (k : Int) v) (.returned (.slice O4 n4 c4)) w1) := hide (ints_up ⟨O4, n4, c4, rfl, p2, p3, p4⟩ Hb2.out)
    clear p2 p3 p4
    go_wp2_with fail
    go_ret
    rw [Hs.out]
    exact Hp.out
end Go.Proofs.YtbppdalfcldodaaGreat
