/- A page's around: a string, an expression, a string. -/
import Derived.Test.YtjpphjmehgflpaaGreatDoorHItoa
namespace Go.Proofs.YtjpphjmehgflpaaGreatDoor
open Go.RowKit Ex
set_option linter.unusedSimpArgs false
set_option linter.unusedVariables false

def Wr (B b : Nat) (s : SL) (bs : List UInt8) (w : World) : Ending → World → Prop := fun e w' => e = .returned (.tuple #[]) ∧ Pg B b s bs w' ∧ KP B b w w'
/- how an expression is written, wherever the page stands -/
def Ex35 (B b : Nat) (s : SL) (v : Value) (X : List UInt8) (w0 : World) : Prop :=
  ∀ bs w, Below B w0 w → Pg B b s bs w → bs.length + X.length ≤ 140737488355328 → Calls Tryz.prog 16 #[.pointer (some ⟨b, 0, none⟩), v] w (Wr B b s (bs ++ X) w)
theorem cat1 (x : ByteArray) : catB [x] = x.data.toList := by simp [catB]
theorem cat2 (x y : ByteArray) : catB [x, y] = x.data.toList ++ y.data.toList := by simp [catB]
theorem box_of {w : World} {k : Nat} {op n : Int} {A : Option Addr} {len cap : Nat} {t : TypeId} (h : w.heap[k]? = some (.cells #[.int .i64 op, .int .i64 n, .slice A len cap] t (0, 0))) : Box3 w k op n A len cap :=
  ⟨by rw [Lib.cell_of_heap h]; rfl, by rw [Lib.cell_of_heap h]; rfl, by rw [Lib.cell_of_heap h]; rfl⟩

set_option maxHeartbeats 1000000 in
theorem around_of (B b : Nat) (s : SL) (bs X : List UInt8) (x y : ByteArray) (op n : Int) (A : Option Addr) (len cap : Nat) (w : World) (hB : B ≤ w.heap.size) (hP : Pg B b s bs w)
    (hE : Ex35 B b s (.agg #[.int .i64 op, .int .i64 n, .slice A len cap]) X w) (hlen : bs.length + (x.data.toList ++ (X ++ y.data.toList)).length ≤ 140737488355328) :
    Calls Tryz.prog 36 #[.pointer (some ⟨b, 0, none⟩), .string x, .agg #[.int .i64 op, .int .i64 n, .slice A len cap], .string y] w (Wr B b s (bs ++ (x.data.toList ++ (X ++ y.data.toList))) w) := by
  have hlt := hP.lt
  have HP := hide hP; clear hP
  have HE := hide hE; clear hE
  simp only [List.length_append] at hlen
  have Hlen := hide hlen; clear hlen
  have hw1 : Hid ((w.alloc (.cells #[.int .i64 op, .int .i64 n, .slice A len cap] 25)).heap.size = w.heap.size + 1) := hide (by simp)
  go_enter Tryz.func36, Tryz.ntmps36
  go_wp2_with fail
  refine (put_any B b (w.heap.size + 1) s bs [x] 1 _ rfl (by decide) ?_ (by omega) ((HP.out.alloc _).alloc _) (by rw [cat1]; have := Hlen.out; omega) (by simp; omega)).mono ?_
  · rw [← hw1.out]; exact heap_alloc_new _ _
  rintro e w1 ⟨rfl, hp1, hk1⟩
  rw [cat1] at hp1
  have Hk0 : Hid (KP B b w w1) := hide ((((KP.refl B b w).alloc hB _).alloc (by simp; omega) _).trans hk1)
  have hbx : w1.heap[w.heap.size]? = some (.cells #[.int .i64 op, .int .i64 n, .slice A len cap] 25 (0, 0)) := hk1.at_ (by
    rw [Lib.alloc_old _ _ _ (by simp)]; exact heap_alloc_new _ _) (by decide) (by omega)
  obtain ⟨c0, c1, c2⟩ := box_of hbx
  have Hp1 := hide hp1; clear hp1 hk1 hbx
  have hz1 := Hk0.out.size
  go_wp2_with fail
  refine (HE.out _ _ Hk0.out.1 Hp1.out (by have := Hlen.out; simp only [List.length_append]; omega)).mono ?_
  rintro e w2 ⟨rfl, hp2, hk2⟩
  have Hk2 : Hid (KP B b w w2) := hide (Hk0.out.trans hk2)
  have Hp2 := hide hp2; clear hp2 hk2
  have hz2 := Hk2.out.size
  go_wp2_with fail
  refine (put_any B b w2.heap.size s _ [y] 1 _ rfl (by decide) (heap_alloc_new _ _) (by omega) (Hp2.out.alloc _) (by rw [cat1]; have := Hlen.out; simp only [List.length_append]; omega) (by simp; omega)).mono ?_
  rintro e w3 ⟨rfl, hp3, hk3⟩
  rw [cat1] at hp3
  have Hk3 : Hid (KP B b w w3) := hide ((Hk2.out.alloc (by omega) _).trans hk3)
  have Hp3 := hide hp3; clear hp3 hk3
  go_wp2_with fail
  go_end0
  refine ⟨rfl, ?_, Hk3.out⟩
  have := Hp3.out
  simp only [List.append_assoc] at this
  exact this
end Go.Proofs.YtjpphjmehgflpaaGreatDoor
