/- A page's expr: an expression's text is put onto the page. -/
import Derived.Test.YtjpphjmehgflpaaGreatDoorHAround
import Derived.Test.YtjpphjmehgflpaaGreatDoorGText
import Derived.Deep.RegionHeld3
namespace Go.Proofs.YtjpphjmehgflpaaGreatDoor
open Go.RowKit Ex
set_option linter.unusedSimpArgs false
set_option linter.unusedVariables false

theorem Ex35.on {B b : Nat} {s : SL} {v : Value} {X : List UInt8} {w0 w1 : World} (h : Ex35 B b s v X w0) (hb : Below B w0 w1) : Ex35 B b s v X w1 := fun bs w h1 h2 h3 => h bs w (hb.trans h1) h2 h3
/- texts, operation by operation -/
theorem ex_num (l : List Dom.V) (n : Int) : exT l (.mk 1 n []) = Lib.itoa n := by simp [exT, txT, txK, txN]
theorem ex_boo (l : List Dom.V) (n : Int) : exT l (.mk 2 n []) = if n = 1 then [116, 114, 117, 101] else [102, 97, 108, 115, 101] := by simp [exT, txT, txK, txN]
theorem nm_key {l : List Dom.V} {k : Nat} {v : Dom.V} (h : l[k]? = some v) : (nmL l).getD (k : Int).toNat [] = v.nm.data.toList := by
  rw [Int.toNat_natCast, List.getD_eq_getElem?_getD, nmL, List.getElem?_map, h]; rfl
theorem ex_var {l : List Dom.V} {k : Nat} {v : Dom.V} (h : l[k]? = some v) : exT l (.mk 3 (k : Int) []) = v.nm.data.toList := by
  rw [← nm_key h]; simp [exT, txT, txK, txN]
theorem ex_nxt {l : List Dom.V} {k : Nat} {v : Dom.V} (h : l[k]? = some v) : exT l (.mk 4 (k : Int) []) = v.nm.data.toList ++ [39] := by
  rw [← nm_key h]; simp [exT, txT, txK, txN]
theorem ex_neg (l : List Dom.V) (a : T) : exT l (.mk 5 0 [a]) = [40, 110, 111, 116, 32] ++ (exT l a ++ [41]) := by simp [exT, txT, txK, txN]
theorem ex_ite (l : List Dom.V) (a b c : T) : exT l (.mk 15 0 [a, b, c]) = [40, 105, 102, 32] ++ (exT l a ++ [32, 116, 104, 101, 110, 32]) ++ exT l b ++ ([32, 101, 108, 115, 101, 32] ++ (exT l c ++ [41])) := by simp [exT, txT, txK, txN]
theorem ex_bin (l : List Dom.V) (op : Int) (a b : T) (h1 : 6 ≤ op) (h2 : op ≤ 14) : exT l (.mk op 0 [a, b]) = [40] ++ (exT l a ++ [32]) ++ wordT op ++ ([32] ++ (exT l b ++ [41])) := by
  have e1 : ¬ op = 1 := by omega
  have e2 : ¬ op = 2 := by omega
  have e3 : ¬ op = 3 := by omega
  have e4 : ¬ op = 4 := by omega
  have e5 : ¬ op = 5 := by omega
  have e15 : ¬ op = 15 := by omega
  simp [exT, txT, txK, txN, e1, e2, e3, e4, e5, e15]

set_option maxHeartbeats 400000 in
theorem fbool_in (q : Bool) (w : World) : Calls Tryz.prog 62 #[.bool q] w fun e w' => e = .returned (.string ⟨if q = true then #[116, 114, 117, 101] else #[102, 97, 108, 115, 101]⟩) ∧ w = w' := by
  cases q
  all_goals (go_enter Tryz.func62, Tryz.ntmps62; go_wp2; go_ret; exact ⟨rfl, rfl⟩)
set_option maxHeartbeats 400000 in
theorem fbool_any (q : Bool) (w : World) : Calls Tryz.prog 35 #[.bool q] w fun e w' => e = .returned (.string ⟨if q = true then #[116, 114, 117, 101] else #[102, 97, 108, 115, 101]⟩) ∧ w = w' := by
  cases q
  · go_enter Tryz.func35, Tryz.ntmps35
    go_wp2_with fail
    refine (fbool_in false _).mono ?_
    rintro e w1 ⟨rfl, rfl⟩
    go_wp2_with fail
    go_ret
    exact ⟨rfl, rfl⟩
  · go_enter Tryz.func35, Tryz.ntmps35
    go_wp2_with fail
    refine (fbool_in true _).mono ?_
    rintro e w1 ⟨rfl, rfl⟩
    go_wp2_with fail
    go_ret
    exact ⟨rfl, rfl⟩
set_option maxHeartbeats 1000000 in
theorem sign_any (op : Int) (w : World) (h1 : 6 ≤ op) (h2 : op ≤ 14) : Calls Tryz.prog 37 #[.int .i64 op] w fun e w' => e = .returned (.string ⟨(wordT op).toArray⟩) ∧ w = w' := by
  have hc : op = 6 ∨ op = 7 ∨ op = 8 ∨ op = 9 ∨ op = 10 ∨ op = 11 ∨ op = 12 ∨ op = 13 ∨ op = 14 := by omega
  clear h1 h2
  rcases hc with rfl | rfl | rfl | rfl | rfl | rfl | rfl | rfl | rfl
  all_goals (go_enter Tryz.func37, Tryz.ntmps37; go_wp2; go_ret; exact ⟨rfl, rfl⟩)

section
variable (B b : Nat) (s : SL) (l : List Dom.V) (bs : List UInt8) (w : World) (n : Int) (A : Option Addr) (len cap : Nat)

set_option maxHeartbeats 1000000 in
theorem expr_num (hB : B ≤ w.heap.size) (hP : Pg B b s bs w) (hT : TB B w) (h0 : -1000 ≤ n) (h1 : n ≤ 1000) (hlen : bs.length + (Lib.itoa n).length ≤ 140737488355328) :
    Calls Tryz.prog 16 #[.pointer (some ⟨b, 0, none⟩), .agg #[.int .i64 1, .int .i64 n, .slice A len cap]] w (Wr B b s (bs ++ Lib.itoa n) w) := by
  have hlt := hP.lt
  have HP := hide hP; clear hP
  have Hlen := hide hlen; clear hlen
  have Hbx : Hid (Below w.heap.size w (w.alloc (.cells #[.int .i64 1, .int .i64 n, .slice A len cap] 25))) := hide ((Below.refl _ _).alloc (Nat.le_refl _) _)
  have HT := hide (hT.on (Hbx.out.mono hB)); clear hT
  go_enter Tryz.func16, Tryz.ntmps16
  go_wp2_with fail
  refine (itoa_any B n _ h0 h1 HT.out).mono ?_
  rintro e w1 ⟨rfl, hb1⟩
  have Hk1 : Hid (KP B b w w1) := hide ((KP.of_below Hbx.out hB).trans (KP.of_below hb1 (by simp; omega)))
  have Hp1 : Hid (Pg B b s bs w1) := hide ((HP.out.alloc _).below hb1)
  have hz1 := Hk1.out.size
  clear hb1
  go_wp2_with fail
  refine (put_any B b w1.heap.size s bs [⟨(Lib.itoa n).toArray⟩] 1 _ rfl (by decide) (heap_alloc_new _ _) (by omega) (Hp1.out.alloc _) (by rw [cat1]; exact Hlen.out) (by simp; omega)).mono ?_
  rintro e w3 ⟨rfl, hp3, hk3⟩
  rw [cat1] at hp3
  have Hk3 : Hid (KP B b w w3) := hide ((Hk1.out.alloc (by omega) _).trans hk3)
  have Hp3 := hide hp3; clear hp3 hk3
  go_wp2_with fail
  go_end0
  exact ⟨rfl, Hp3.out, Hk3.out⟩

set_option maxHeartbeats 1000000 in
theorem expr_boo (hB : B ≤ w.heap.size) (hP : Pg B b s bs w) (h1 : n = 0 ∨ n = 1) (hlen : bs.length + (exT l (.mk 2 n [])).length ≤ 140737488355328) :
    Calls Tryz.prog 16 #[.pointer (some ⟨b, 0, none⟩), .agg #[.int .i64 2, .int .i64 n, .slice A len cap]] w (Wr B b s (bs ++ exT l (.mk 2 n [])) w) := by
  rw [ex_boo] at *
  have hlt := hP.lt
  have HP := hide hP; clear hP
  have Hk1 : Hid (KP B b w (w.alloc (.cells #[.int .i64 2, .int .i64 n, .slice A len cap] 25))) := hide ((KP.refl _ _ _).alloc hB _)
  rcases h1 with rfl | rfl
  · have Hlen := hide hlen; clear hlen
    go_enter Tryz.func16, Tryz.ntmps16
    go_wp2_with fail
    refine (fbool_any false _).mono ?_
    rintro e w1 ⟨rfl, rfl⟩
    go_wp2_with fail
    refine (put_any B b (w.heap.size + 1) s bs [⟨#[102, 97, 108, 115, 101]⟩] 1 _ rfl (by decide) (by rw [← show (w.alloc (.cells #[.int .i64 2, .int .i64 0, .slice A len cap] 25)).heap.size = w.heap.size + 1 by simp]; exact heap_alloc_new _ _) (by omega) ((HP.out.alloc _).alloc _) (by rw [cat1]; exact Hlen.out) (by simp; omega)).mono ?_
    rintro e w3 ⟨rfl, hp3, hk3⟩
    rw [cat1] at hp3
    have Hk3 : Hid (KP B b w w3) := hide ((Hk1.out.alloc (by simp; omega) _).trans hk3)
    have Hp3 := hide hp3; clear hp3 hk3
    go_wp2_with fail
    go_end0
    exact ⟨rfl, Hp3.out, Hk3.out⟩
  · have Hlen := hide hlen; clear hlen
    go_enter Tryz.func16, Tryz.ntmps16
    go_wp2_with fail
    refine (fbool_any true _).mono ?_
    rintro e w1 ⟨rfl, rfl⟩
    go_wp2_with fail
    refine (put_any B b (w.heap.size + 1) s bs [⟨#[116, 114, 117, 101]⟩] 1 _ rfl (by decide) (by rw [← show (w.alloc (.cells #[.int .i64 2, .int .i64 1, .slice A len cap] 25)).heap.size = w.heap.size + 1 by simp]; exact heap_alloc_new _ _) (by omega) ((HP.out.alloc _).alloc _) (by rw [cat1]; exact Hlen.out) (by simp; omega)).mono ?_
    rintro e w3 ⟨rfl, hp3, hk3⟩
    rw [cat1] at hp3
    have Hk3 : Hid (KP B b w w3) := hide ((Hk1.out.alloc (by simp; omega) _).trans hk3)
    have Hp3 := hide hp3; clear hp3 hk3
    go_wp2_with fail
    go_end0
    exact ⟨rfl, Hp3.out, Hk3.out⟩
end
end Go.Proofs.YtjpphjmehgflpaaGreatDoor
