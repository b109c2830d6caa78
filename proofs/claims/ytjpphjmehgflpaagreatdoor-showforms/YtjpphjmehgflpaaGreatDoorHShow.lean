/- The program's show: the text of an expression, of a module. -/
import Derived.Test.YtjpphjmehgflpaaGreatDoorGCmd
import Derived.Test.YtjpphjmehgflpaaGreatDoorHVar
import Derived.Test.YtjpphjmehgflpaaGreatDoorHLen
import Derived.Test.YtjpphjmehgflpaaGreatDoorGDev
import Derived.Test.YtjpphjmehgflpaaGreatDoorGSort
namespace Go.Proofs.YtjpphjmehgflpaaGreatDoor
open Go.RowKit Ex
set_option linter.unusedSimpArgs false
set_option linter.unusedVariables false

def showE (l : List Dom.V) (t : T) : List UInt8 := if (sortE l t).2 = 0 then exT l t else []
def showM (m : MT) : List UInt8 := if modE m = 0 then modT m else []
theorem TB.up {w w' : World} (h : TB w.heap.size w) (hb : Below w.heap.size w w') : TB w'.heap.size w' := fun w2 h2 => h w2 (hb.trans (h2.mono hb.size))

set_option maxHeartbeats 2000000 in
theorem showE_any (B : Nat) (s : SL) (l : List Dom.V) (d : Nat) (op n : Int) (A : Option Addr) (len cap : Nat) (t : T) (w : World) (ho : OkVars s l) (hB : B ≤ w.heap.size) (hre : RE w B d op n A len cap t) (hrv : Dom.RV w B s.A s.n l) (hT : TB w.heap.size w) :
    Calls Tryz.prog 6 #[s.v, .agg #[.int .i64 op, .int .i64 n, .slice A len cap]] w fun e w' => e = .returned (.string (bytesOf (showE l t))) ∧ Below w.heap.size w w' := by
  obtain ⟨sA, sn, sc⟩ := s
  simp only [SL.v]
  have hbx : Below w.heap.size w (w.alloc (.cells #[.int .i64 op, .int .i64 n, .slice A len cap] 25)) := (Below.refl _ _).alloc (Nat.le_refl _) _
  have Hre := hide (hre.below (hbx.mono hB))
  have Hrv := hide (hrv.below (hbx.mono hB))
  have Hbox := hide (box_new w op n A len cap 25)
  have HT := hide (hT.up hbx)
  have Hbx := hide hbx
  have hzz : (w.alloc (.cells #[.int .i64 op, .int .i64 n, .slice A len cap] 25)).heap.size = w.heap.size + 1 := by simp
  clear hre hrv hT hbx
  go_enter Tryz.func6, Tryz.ntmps6
  go_wp2_with fail
  generalize w.alloc (.cells #[.int .i64 op, .int .i64 n, .slice A len cap] 25) = w0 at *
  refine (of_any B sA sn sc l d op n A len cap t w0 ho.1 ho.2.1 ho.2.2.1 (by omega) Hre.out Hrv.out ho.2.2.2).mono ?_
  rintro e w1 ⟨rfl, hb1⟩
  have Hb1 := hide (Hbx.out.trans (hb1.mono (by omega)))
  have Hre1 := hide (Hre.out.below (hb1.mono (by omega)))
  have Hrv1 := hide (Hrv.out.below (hb1.mono (by omega)))
  have Hbox1 := hide (Hbox.out.below hb1 (by omega))
  have HT1 := hide (HT.out.up hb1)
  have hz1 := hb1.size
  clear hb1 Hre Hrv Hbox HT Hbx
  by_cases hs : (sortE l t).2 = 0
  · have hsb : ((sortE l t).2 != 0) = false := by simp [hs]
    have Hsh : Hid (showE l t = exT l t) := hide (if_pos hs)
    have Hg := hide (sort_gt hs).2.2
    have Hne := hide (ex_ne hs)
    have Hlen := hide (ex_len2 hs)
    clear hs
    have Hpg : Hid (Pg w1.heap.size w1.heap.size ⟨sA, sn, sc⟩ [] (w1.alloc (.cells #[.slice sA sn sc, .pointer none, .slice none 0 0] 55))) := hide (Pg.new (s := ⟨sA, sn, sc⟩) w1 (Nat.le_refl _))
    have Hbp : Hid (Below w1.heap.size w1 (w1.alloc (.cells #[.slice sA sn sc, .pointer none, .slice none 0 0] 55))) := hide ((Below.refl _ _).alloc (Nat.le_refl _) _)
    obtain ⟨c0, c1, c2⟩ := Hbox1.out.below Hbp.out (by omega)
    have HE := hide (expr_any w1.heap.size w1.heap.size ⟨sA, sn, sc⟩ l w1 (Nat.le_refl _) (Hrv1.out.more (by omega)) HT1.out d op n A len cap t (RE.more (by omega) _ _ _ _ _ _ _ Hre1.out) Hg.out)
    go_wp2_with fail
    refine (HE.out [] _ Hbp.out Hpg.out (by have := Hlen.out; simp; omega)).mono ?_
    rintro e w2 ⟨rfl, hp2, hk2⟩
    have Hp2 : Hid (Pg w1.heap.size w1.heap.size ⟨sA, sn, sc⟩ (exT l t) w2) := hide (by simpa using hp2)
    have Hb2 := hide (Hbp.out.trans hk2.1)
    clear hp2 hk2
    have hz2 := Hb2.out.size
    go_wp2_with fail
    refine (string_any w1.heap.size w1.heap.size ⟨sA, sn, sc⟩ (exT l t) w2 Hp2.out Hne.out).mono ?_
    rintro e w3 ⟨rfl, hb3⟩
    have Hb3 := hide (Hb1.out.trans ((Hb2.out.trans hb3).mono (by omega)))
    clear hb3
    go_wp2_with fail
    go_ret
    exact ⟨by rw [Hsh.out]; rfl, Hb3.out⟩
  · have hsb : ((sortE l t).2 != 0) = true := by simp [hs]
    have Hsh : Hid (showE l t = []) := hide (if_neg hs)
    clear hs
    go_wp2_with fail
    go_ret
    exact ⟨by rw [Hsh.out]; rfl, Hb1.out⟩
end Go.Proofs.YtjpphjmehgflpaaGreatDoor
