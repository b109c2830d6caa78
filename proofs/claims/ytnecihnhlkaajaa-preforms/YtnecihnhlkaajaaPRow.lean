/- Force of one vertex (the third closure of Force), and row over each closure. -/
import Derived.Test.YtnecihnhlkaajaaPCont
import Derived.BigQuiet
import Derived.Lib.QuietBelow
namespace Go.Proofs.Ytnecihnhlkaajaa.Gr
open Go.RowKit
open Go.Sort (grow)
set_option linter.unusedSimpArgs false
set_option linter.unusedVariables false

theorem cell_lt {w : World} {b o : Nat} {v : Value} (h : w.cell? ⟨b, o, none⟩ = some v) : b < w.heap.size := by
  rcases Nat.lt_or_ge b w.heap.size with hh | hh
  · exact hh
  · simp [World.cell?, Array.getElem?_eq_none hh] at h
def fAt (g : GT) (who : Int) (l : List Bool) (v : Nat) : Bool := if (g.own.getD v 0 == who) = true then (g.nxt.getD v []).any (fun x => hasB l x) else !(g.nxt.getD v []).any (fun x => !hasB l x)
set_option maxHeartbeats 1000000 in
theorem fr_any (B b0 b1 b2 b3 cb : Nat) (OA NA A : Option Addr) (on oc nn nc n c : Nat) (g : GT) (who : Int) (l : List Bool) (v : Nat) (X : World) (hv : v < on) (hvn : v < nn)
    (c0 : X.cell? ⟨b0, 0, none⟩ = some (.slice OA on oc)) (c1 : X.cell? ⟨b0, 1, none⟩ = some (.slice NA nn nc)) (cw : X.cell? ⟨b1, 0, none⟩ = some (.int .i64 who))
    (cf : X.cell? ⟨b2, 0, none⟩ = some (.func (.func 26) #[] #[.pointer (some ⟨cb, 0, none⟩)])) (cf2 : X.cell? ⟨b3, 0, none⟩ = some (.func (.func 27) #[] #[.pointer (some ⟨cb, 0, none⟩)]))
    (hc : X.cell? ⟨cb, 0, none⟩ = some (.slice A n c)) (hg : RG X B ⟨OA, on, oc⟩ ⟨NA, nn, nc⟩ g) (hr : RB X B ⟨A, n, c⟩ l) (hB : B ≤ X.heap.size) (h0 : ∀ r, g.nxt[v]? = some r → ∀ x ∈ r, 0 ≤ x) :
    Calls Try.prog 28 #[.int .i64 (v : Int), .pointer (some ⟨b0, 0, none⟩), .pointer (some ⟨b1, 0, none⟩), .pointer (some ⟨b2, 0, none⟩), .pointer (some ⟨b3, 0, none⟩)] X fun e w' => e = .returned (.bool (fAt g who l v)) ∧ Below X.heap.size X w' := by
  obtain ⟨bo, oo, x0, rfl, hbo, hx0, hco⟩ := hg.own.at_ hv
  obtain ⟨bn, no, r, A2, n2, k2, rfl, hbn, hrr, hcn, hri⟩ := hg.nxt.at_ hvn
  have hvn' : (v : Int) < (nn : Int) := by omega
  have hv' : (v : Int) < (on : Int) := by omega
  have hv0 : (0 : Int) ≤ (v : Int) := by omega
  have Hat : Hid (fAt g who l v = if (x0 == who) = true then r.any (fun x => hasB l x) else !r.any (fun x => !hasB l x)) := hide (by unfold fAt; rw [getD_at hx0, getD_at hrr])
  have H0 := hide (h0 r hrr)
  have Hri := hide hri
  have Hr := hide hr
  have Hc := hide hc
  clear hx0 hrr hri hr hc hg h0
  have e0 := cell_regrown c0
  have e2 := cell_regrown cw
  have e3 := cell_regrown hco
  cases hxw : x0 == who
  rotate_left
  · have Hf : Hid (fAt g who l v = (r.any (fun x => hasB l x))) := hide (by rw [Hat.out, hxw]; rfl)
    have Hcall : Hid (∀ (Y : World), Below X.heap.size X Y → ∀ (dd : Nat) (os : Array Obj), Calls Try.prog 29 #[.slice A2 n2 k2, .func (.func 26) #[] #[.pointer (some ⟨cb, 0, none⟩)]] (grow (redrawn Y dd) os) fun e w' => e = .returned (.bool (r.any (fun x => hasB l x))) ∧ Below (grow (redrawn Y dd) os).heap.size (grow (redrawn Y dd) os) w') :=
      hide (fun Y hY dd os => (con26_any B A2 n2 k2 r cb A n c l _ (Hri.out.below ((hY.trans ((below_regrown Y dd os).mono hY.size)).mono hB)) H0.out (cell_regrown ((hY.cell (p := ⟨cb, 0, none⟩) (by show cb < _; exact cell_lt Hc.out)).trans Hc.out) dd os) (Hr.out.below ((hY.trans ((below_regrown Y dd os).mono hY.size)).mono hB))).mono fun e w' ⟨he, hw⟩ => ⟨he, hw ▸ Below.refl _ _⟩)
    clear Hat
    go_enter Try.func28, Try.ntmps28
    go_wp2_with fail
    refine wp_region_quiet_below (by kernel_rfl) (by kernel_rfl) ?_
    repeat (go_big_quiet_step (fail))
    refine wpQuiet_nil ?_
    intro w3 hw3
    obtain ⟨p, hp3⟩ := hw3
    have hb3 : Below X.heap.size X w3 := by rw [hp3]; exact below_regrown X p.d p.os
    clear hp3
    have f1 := cell_regrown ((hb3.cell (p := ⟨b0, 1, none⟩) (by show b0 < _; exact cell_lt c1)).trans c1)
    have f2 := cell_regrown ((hb3.cell (p := ⟨bn, no + v, none⟩) (by show bn < _; exact cell_lt hcn)).trans hcn)
    have f3 := cell_regrown ((hb3.cell (p := ⟨b2, 0, none⟩) (by show b2 < _; exact cell_lt cf)).trans cf)
    have Hb3 := hide hb3
    clear e0 e2 e3 hb3
    go_wp2_with fail
    refine wp_region_quiet_below (by kernel_rfl) (by kernel_rfl) ?_
    repeat (go_big_quiet_step ((go_at_call 29; exact Calls.regrown_of (Hcall.out _ Hb3.out _ _))))
    refine wpQuiet_nil ?_
    intro w4 hw4
    obtain ⟨p2, hp4⟩ := hw4
    have hb4 : Below X.heap.size X w4 := by rw [hp4]; exact Hb3.out.trans ((below_regrown w3 p2.d p2.os).mono Hb3.out.size)
    clear hp4
    go_wp2_with fail
    go_ret
    exact ⟨ret_bool Hf.out.symm, hb4⟩
  · have Hf : Hid (fAt g who l v = (!r.any (fun x => !hasB l x))) := hide (by rw [Hat.out, hxw]; rfl)
    have Hcall : Hid (∀ (Y : World), Below X.heap.size X Y → ∀ (dd : Nat) (os : Array Obj), Calls Try.prog 29 #[.slice A2 n2 k2, .func (.func 27) #[] #[.pointer (some ⟨cb, 0, none⟩)]] (grow (redrawn Y dd) os) fun e w' => e = .returned (.bool (r.any (fun x => !hasB l x))) ∧ Below (grow (redrawn Y dd) os).heap.size (grow (redrawn Y dd) os) w') :=
      hide (fun Y hY dd os => (con27_any B A2 n2 k2 r cb A n c l _ (Hri.out.below ((hY.trans ((below_regrown Y dd os).mono hY.size)).mono hB)) H0.out (cell_regrown ((hY.cell (p := ⟨cb, 0, none⟩) (by show cb < _; exact cell_lt Hc.out)).trans Hc.out) dd os) (Hr.out.below ((hY.trans ((below_regrown Y dd os).mono hY.size)).mono hB))).mono fun e w' ⟨he, hw⟩ => ⟨he, hw ▸ Below.refl _ _⟩)
    clear Hat
    go_enter Try.func28, Try.ntmps28
    go_wp2_with fail
    refine wp_region_quiet_below (by kernel_rfl) (by kernel_rfl) ?_
    repeat (go_big_quiet_step (fail))
    refine wpQuiet_nil ?_
    intro w3 hw3
    obtain ⟨p, hp3⟩ := hw3
    have hb3 : Below X.heap.size X w3 := by rw [hp3]; exact below_regrown X p.d p.os
    clear hp3
    have f1 := cell_regrown ((hb3.cell (p := ⟨b0, 1, none⟩) (by show b0 < _; exact cell_lt c1)).trans c1)
    have f2 := cell_regrown ((hb3.cell (p := ⟨bn, no + v, none⟩) (by show bn < _; exact cell_lt hcn)).trans hcn)
    have f3 := cell_regrown ((hb3.cell (p := ⟨b3, 0, none⟩) (by show b3 < _; exact cell_lt cf2)).trans cf2)
    have Hb3 := hide hb3
    clear e0 e2 e3 hb3
    go_wp2_with fail
    refine wp_region_quiet_below (by kernel_rfl) (by kernel_rfl) ?_
    repeat (go_big_quiet_step ((go_at_call 29; exact Calls.regrown_of (Hcall.out _ Hb3.out _ _))))
    refine wpQuiet_nil ?_
    intro w4 hw4
    obtain ⟨p2, hp4⟩ := hw4
    have hb4 : Below X.heap.size X w4 := by rw [hp4]; exact Hb3.out.trans ((below_regrown w3 p2.d p2.os).mono Hb3.out.size)
    clear hp4
    go_wp2_with fail
    go_ret
    exact ⟨ret_bool Hf.out.symm, hb4⟩
set_option maxHeartbeats 1000000 in
theorem row21_any (B : Nat) (OA NA : Option Addr) (on oc nn nc : Nat) (g : GT) (p : Nat → Bool) (q0 : Nat) (w : World) (hB : B ≤ w.heap.size) (hg : RG w B ⟨OA, on, oc⟩ ⟨NA, nn, nc⟩ g) (hm : on ≤ 2 ^ 48)
    (hcall : ∀ (v : Nat) (X : World), Below w.heap.size w X → v < on → Calls Try.prog 21 #[.int .i64 (v : Int), .pointer (some ⟨q0, 0, none⟩)] X fun e w' => e = .returned (.bool (p v)) ∧ Below X.heap.size X w') :
    Calls Try.prog 20 #[.agg #[.slice OA on oc, .slice NA nn nc], .func (.func 21) #[] #[.pointer (some ⟨q0, 0, none⟩)]] w (RowPost w ((List.range on).map p)) := by
  have hbx : Below w.heap.size w ((w.alloc (.cells #[.slice OA on oc, .slice NA nn nc] 25)).alloc (.cells (madeCells #[.bool false] on) 4)) := ((Below.refl _ _).alloc (Nat.le_refl _) _).alloc (by simp) _
  have hz0 : (w.alloc (.cells #[.slice OA on oc, .slice NA nn nc] 25)).heap.size = w.heap.size + 1 := by simp
  have hrow := mark_zero (f := p) (World.rowIs_made (w.alloc (.cells #[.slice OA on oc, .slice NA nn nc] 25)) (.bool false) on 4)
  rw [hz0] at hrow
  have Hrow := hide hrow
  have HC := hide hcall
  have hmk := make_bools on (by omega)
  have hz2 : w.heap.size + 2 = ((w.alloc (.cells #[.slice OA on oc, .slice NA nn nc] 25)).alloc (.cells (madeCells #[.bool false] on) 4)).heap.size := by simp
  clear hrow hz0 hcall hg
  go_enter Try.func20, Try.ntmps20
  go_wp2_with fail
  clear hmk
  generalize (w.alloc (.cells #[.slice OA on oc, .slice NA nn nc] 25)).alloc (.cells (madeCells #[.bool false] on) 4) = w2 at *
  have hz3 : w.heap.size + 2 ≤ w2.heap.size := by omega
  clear hz2
  go_loopw [13] (fun i wr => ∃ k : Nat, k ≤ on ∧ i = .int .i64 k ∧ wr.rowIs (w.heap.size + 1) 4 on (markV p k) ∧ Below w.heap.size w wr) (fun i _ => on - (intOf i).toNat)
  case atStart => exact ⟨0, Nat.zero_le _, rfl, Hrow.out, hbx⟩
  case round =>
    obtain ⟨k, hk, rfl, hrw, hb⟩ := hrel
    have Hrw := hide hrw
    by_cases hlt : k < on
    · have hlt' : (k : Int) < (on : Int) := by omega
      have hsz := hrw.lt
      clear hrw
      go_wp2_with fail
      refine (HC.out k wr hb hlt).mono ?_
      rintro e w3 ⟨rfl, hb3⟩
      have hrw3 := Hrw.out.of_block (hb3.block _ hsz)
      obtain ⟨u0, hu0⟩ : ∃ u, w3.cell? ⟨w.heap.size + 1, k, none⟩ = some u := ⟨_, hrw3.cell hlt⟩
      have hfz := hrw3.frozen k
      have Hst := hide (mark_step hrw3 (v := p k) rfl)
      have Hb2 := hide ((hb.trans (hb3.mono hb.size)).setCell (p := ⟨w.heap.size + 1, k, none⟩) (by show w.heap.size ≤ w.heap.size + 1; omega) (.bool (p k)))
      clear hrw3 hb3
      go_wp2_with fail
      go_roundw
      case rel => exact ⟨k + 1, by omega, by go_num, Hst.out, Hb2.out⟩
      case measure => simp [intOf]; omega
    · have hlt' : ¬ (k : Int) < (on : Int) := by omega
      obtain rfl : k = on := by omega
      clear hrw
      go_wp2_with fail
      go_ret
      exact ⟨⟨_, _, _⟩, rfl, mark_done Hrw.out (by unfold maxLen; omega), hb⟩
set_option maxHeartbeats 1000000 in
theorem row23_any (B : Nat) (OA NA : Option Addr) (on oc nn nc : Nat) (g : GT) (p : Nat → Bool) (q0 q1 : Nat) (w : World) (hB : B ≤ w.heap.size) (hg : RG w B ⟨OA, on, oc⟩ ⟨NA, nn, nc⟩ g) (hm : on ≤ 2 ^ 48)
    (hcall : ∀ (v : Nat) (X : World), Below w.heap.size w X → v < on → Calls Try.prog 23 #[.int .i64 (v : Int), .pointer (some ⟨q0, 0, none⟩), .pointer (some ⟨q1, 0, none⟩)] X fun e w' => e = .returned (.bool (p v)) ∧ Below X.heap.size X w') :
    Calls Try.prog 20 #[.agg #[.slice OA on oc, .slice NA nn nc], .func (.func 23) #[] #[.pointer (some ⟨q0, 0, none⟩), .pointer (some ⟨q1, 0, none⟩)]] w (RowPost w ((List.range on).map p)) := by
  have hbx : Below w.heap.size w ((w.alloc (.cells #[.slice OA on oc, .slice NA nn nc] 25)).alloc (.cells (madeCells #[.bool false] on) 4)) := ((Below.refl _ _).alloc (Nat.le_refl _) _).alloc (by simp) _
  have hz0 : (w.alloc (.cells #[.slice OA on oc, .slice NA nn nc] 25)).heap.size = w.heap.size + 1 := by simp
  have hrow := mark_zero (f := p) (World.rowIs_made (w.alloc (.cells #[.slice OA on oc, .slice NA nn nc] 25)) (.bool false) on 4)
  rw [hz0] at hrow
  have Hrow := hide hrow
  have HC := hide hcall
  have hmk := make_bools on (by omega)
  have hz2 : w.heap.size + 2 = ((w.alloc (.cells #[.slice OA on oc, .slice NA nn nc] 25)).alloc (.cells (madeCells #[.bool false] on) 4)).heap.size := by simp
  clear hrow hz0 hcall hg
  go_enter Try.func20, Try.ntmps20
  go_wp2_with fail
  clear hmk
  generalize (w.alloc (.cells #[.slice OA on oc, .slice NA nn nc] 25)).alloc (.cells (madeCells #[.bool false] on) 4) = w2 at *
  have hz3 : w.heap.size + 2 ≤ w2.heap.size := by omega
  clear hz2
  go_loopw [13] (fun i wr => ∃ k : Nat, k ≤ on ∧ i = .int .i64 k ∧ wr.rowIs (w.heap.size + 1) 4 on (markV p k) ∧ Below w.heap.size w wr) (fun i _ => on - (intOf i).toNat)
  case atStart => exact ⟨0, Nat.zero_le _, rfl, Hrow.out, hbx⟩
  case round =>
    obtain ⟨k, hk, rfl, hrw, hb⟩ := hrel
    have Hrw := hide hrw
    by_cases hlt : k < on
    · have hlt' : (k : Int) < (on : Int) := by omega
      have hsz := hrw.lt
      clear hrw
      go_wp2_with fail
      refine (HC.out k wr hb hlt).mono ?_
      rintro e w3 ⟨rfl, hb3⟩
      have hrw3 := Hrw.out.of_block (hb3.block _ hsz)
      obtain ⟨u0, hu0⟩ : ∃ u, w3.cell? ⟨w.heap.size + 1, k, none⟩ = some u := ⟨_, hrw3.cell hlt⟩
      have hfz := hrw3.frozen k
      have Hst := hide (mark_step hrw3 (v := p k) rfl)
      have Hb2 := hide ((hb.trans (hb3.mono hb.size)).setCell (p := ⟨w.heap.size + 1, k, none⟩) (by show w.heap.size ≤ w.heap.size + 1; omega) (.bool (p k)))
      clear hrw3 hb3
      go_wp2_with fail
      go_roundw
      case rel => exact ⟨k + 1, by omega, by go_num, Hst.out, Hb2.out⟩
      case measure => simp [intOf]; omega
    · have hlt' : ¬ (k : Int) < (on : Int) := by omega
      obtain rfl : k = on := by omega
      clear hrw
      go_wp2_with fail
      go_ret
      exact ⟨⟨_, _, _⟩, rfl, mark_done Hrw.out (by unfold maxLen; omega), hb⟩
set_option maxHeartbeats 1000000 in
theorem row24_any (B : Nat) (OA NA : Option Addr) (on oc nn nc : Nat) (g : GT) (p : Nat → Bool) (q0 q1 : Nat) (w : World) (hB : B ≤ w.heap.size) (hg : RG w B ⟨OA, on, oc⟩ ⟨NA, nn, nc⟩ g) (hm : on ≤ 2 ^ 48)
    (hcall : ∀ (v : Nat) (X : World), Below w.heap.size w X → v < on → Calls Try.prog 24 #[.int .i64 (v : Int), .pointer (some ⟨q0, 0, none⟩), .pointer (some ⟨q1, 0, none⟩)] X fun e w' => e = .returned (.bool (p v)) ∧ Below X.heap.size X w') :
    Calls Try.prog 20 #[.agg #[.slice OA on oc, .slice NA nn nc], .func (.func 24) #[] #[.pointer (some ⟨q0, 0, none⟩), .pointer (some ⟨q1, 0, none⟩)]] w (RowPost w ((List.range on).map p)) := by
  have hbx : Below w.heap.size w ((w.alloc (.cells #[.slice OA on oc, .slice NA nn nc] 25)).alloc (.cells (madeCells #[.bool false] on) 4)) := ((Below.refl _ _).alloc (Nat.le_refl _) _).alloc (by simp) _
  have hz0 : (w.alloc (.cells #[.slice OA on oc, .slice NA nn nc] 25)).heap.size = w.heap.size + 1 := by simp
  have hrow := mark_zero (f := p) (World.rowIs_made (w.alloc (.cells #[.slice OA on oc, .slice NA nn nc] 25)) (.bool false) on 4)
  rw [hz0] at hrow
  have Hrow := hide hrow
  have HC := hide hcall
  have hmk := make_bools on (by omega)
  have hz2 : w.heap.size + 2 = ((w.alloc (.cells #[.slice OA on oc, .slice NA nn nc] 25)).alloc (.cells (madeCells #[.bool false] on) 4)).heap.size := by simp
  clear hrow hz0 hcall hg
  go_enter Try.func20, Try.ntmps20
  go_wp2_with fail
  clear hmk
  generalize (w.alloc (.cells #[.slice OA on oc, .slice NA nn nc] 25)).alloc (.cells (madeCells #[.bool false] on) 4) = w2 at *
  have hz3 : w.heap.size + 2 ≤ w2.heap.size := by omega
  clear hz2
  go_loopw [13] (fun i wr => ∃ k : Nat, k ≤ on ∧ i = .int .i64 k ∧ wr.rowIs (w.heap.size + 1) 4 on (markV p k) ∧ Below w.heap.size w wr) (fun i _ => on - (intOf i).toNat)
  case atStart => exact ⟨0, Nat.zero_le _, rfl, Hrow.out, hbx⟩
  case round =>
    obtain ⟨k, hk, rfl, hrw, hb⟩ := hrel
    have Hrw := hide hrw
    by_cases hlt : k < on
    · have hlt' : (k : Int) < (on : Int) := by omega
      have hsz := hrw.lt
      clear hrw
      go_wp2_with fail
      refine (HC.out k wr hb hlt).mono ?_
      rintro e w3 ⟨rfl, hb3⟩
      have hrw3 := Hrw.out.of_block (hb3.block _ hsz)
      obtain ⟨u0, hu0⟩ : ∃ u, w3.cell? ⟨w.heap.size + 1, k, none⟩ = some u := ⟨_, hrw3.cell hlt⟩
      have hfz := hrw3.frozen k
      have Hst := hide (mark_step hrw3 (v := p k) rfl)
      have Hb2 := hide ((hb.trans (hb3.mono hb.size)).setCell (p := ⟨w.heap.size + 1, k, none⟩) (by show w.heap.size ≤ w.heap.size + 1; omega) (.bool (p k)))
      clear hrw3 hb3
      go_wp2_with fail
      go_roundw
      case rel => exact ⟨k + 1, by omega, by go_num, Hst.out, Hb2.out⟩
      case measure => simp [intOf]; omega
    · have hlt' : ¬ (k : Int) < (on : Int) := by omega
      obtain rfl : k = on := by omega
      clear hrw
      go_wp2_with fail
      go_ret
      exact ⟨⟨_, _, _⟩, rfl, mark_done Hrw.out (by unfold maxLen; omega), hb⟩
set_option maxHeartbeats 1000000 in
theorem row28_any (B : Nat) (OA NA : Option Addr) (on oc nn nc : Nat) (g : GT) (p : Nat → Bool) (q0 q1 q2 q3 : Nat) (w : World) (hB : B ≤ w.heap.size) (hg : RG w B ⟨OA, on, oc⟩ ⟨NA, nn, nc⟩ g) (hm : on ≤ 2 ^ 48)
    (hcall : ∀ (v : Nat) (X : World), Below w.heap.size w X → v < on → Calls Try.prog 28 #[.int .i64 (v : Int), .pointer (some ⟨q0, 0, none⟩), .pointer (some ⟨q1, 0, none⟩), .pointer (some ⟨q2, 0, none⟩), .pointer (some ⟨q3, 0, none⟩)] X fun e w' => e = .returned (.bool (p v)) ∧ Below X.heap.size X w') :
    Calls Try.prog 20 #[.agg #[.slice OA on oc, .slice NA nn nc], .func (.func 28) #[] #[.pointer (some ⟨q0, 0, none⟩), .pointer (some ⟨q1, 0, none⟩), .pointer (some ⟨q2, 0, none⟩), .pointer (some ⟨q3, 0, none⟩)]] w (RowPost w ((List.range on).map p)) := by
  have hbx : Below w.heap.size w ((w.alloc (.cells #[.slice OA on oc, .slice NA nn nc] 25)).alloc (.cells (madeCells #[.bool false] on) 4)) := ((Below.refl _ _).alloc (Nat.le_refl _) _).alloc (by simp) _
  have hz0 : (w.alloc (.cells #[.slice OA on oc, .slice NA nn nc] 25)).heap.size = w.heap.size + 1 := by simp
  have hrow := mark_zero (f := p) (World.rowIs_made (w.alloc (.cells #[.slice OA on oc, .slice NA nn nc] 25)) (.bool false) on 4)
  rw [hz0] at hrow
  have Hrow := hide hrow
  have HC := hide hcall
  have hmk := make_bools on (by omega)
  have hz2 : w.heap.size + 2 = ((w.alloc (.cells #[.slice OA on oc, .slice NA nn nc] 25)).alloc (.cells (madeCells #[.bool false] on) 4)).heap.size := by simp
  clear hrow hz0 hcall hg
  go_enter Try.func20, Try.ntmps20
  go_wp2_with fail
  clear hmk
  generalize (w.alloc (.cells #[.slice OA on oc, .slice NA nn nc] 25)).alloc (.cells (madeCells #[.bool false] on) 4) = w2 at *
  have hz3 : w.heap.size + 2 ≤ w2.heap.size := by omega
  clear hz2
  go_loopw [13] (fun i wr => ∃ k : Nat, k ≤ on ∧ i = .int .i64 k ∧ wr.rowIs (w.heap.size + 1) 4 on (markV p k) ∧ Below w.heap.size w wr) (fun i _ => on - (intOf i).toNat)
  case atStart => exact ⟨0, Nat.zero_le _, rfl, Hrow.out, hbx⟩
  case round =>
    obtain ⟨k, hk, rfl, hrw, hb⟩ := hrel
    have Hrw := hide hrw
    by_cases hlt : k < on
    · have hlt' : (k : Int) < (on : Int) := by omega
      have hsz := hrw.lt
      clear hrw
      go_wp2_with fail
      refine (HC.out k wr hb hlt).mono ?_
      rintro e w3 ⟨rfl, hb3⟩
      have hrw3 := Hrw.out.of_block (hb3.block _ hsz)
      obtain ⟨u0, hu0⟩ : ∃ u, w3.cell? ⟨w.heap.size + 1, k, none⟩ = some u := ⟨_, hrw3.cell hlt⟩
      have hfz := hrw3.frozen k
      have Hst := hide (mark_step hrw3 (v := p k) rfl)
      have Hb2 := hide ((hb.trans (hb3.mono hb.size)).setCell (p := ⟨w.heap.size + 1, k, none⟩) (by show w.heap.size ≤ w.heap.size + 1; omega) (.bool (p k)))
      clear hrw3 hb3
      go_wp2_with fail
      go_roundw
      case rel => exact ⟨k + 1, by omega, by go_num, Hst.out, Hb2.out⟩
      case measure => simp [intOf]; omega
    · have hlt' : ¬ (k : Int) < (on : Int) := by omega
      obtain rfl : k = on := by omega
      clear hrw
      go_wp2_with fail
      go_ret
      exact ⟨⟨_, _, _⟩, rfl, mark_done Hrw.out (by unfold maxLen; omega), hb⟩
end Go.Proofs.Ytnecihnhlkaajaa.Gr
