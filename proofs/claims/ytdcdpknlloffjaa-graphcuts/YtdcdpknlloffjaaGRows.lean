/- Rows of marks that are made: Dead on both sides, Has, isIn, Row. -/
import Derived.Test.YtdcdpknlloffjaaGMayR
namespace Go.Proofs.Ytdcdpknlloffjaa.Gr
open Go.RowKit
open Go.Sort (grow)
set_option linter.unusedSimpArgs false
set_option linter.unusedVariables false

def RowPost (w : World) (l : List Bool) (e : Ending) (w' : World) : Prop := ∃ s : SL, e = .returned s.v ∧ RB w' w'.heap.size s l ∧ Below w.heap.size w w'
theorem rows_nil {α : Type} (P : World → Nat → Nat → Nat → α → Prop) (w : World) (B : Nat) : Rows P w B ⟨none, 0, 0⟩ [] := ⟨rfl, Nat.le_refl _, Nat.zero_le _, fun h => absurd h (by show ¬ 0 < 0; omega), fun _ => rfl⟩
theorem row_nil {w w' : World} (hb : Below w.heap.size w w') : RowPost w [] (.returned (.slice none 0 0)) w' := ⟨⟨none, 0, 0⟩, rfl, rows_nil _ _ _, hb⟩
theorem rb_of {w : World} {b n : Nat} {f : Nat → Value} {l : List Bool} (h : w.rowIs b 4 n f) (hl : l.length = n) (hm : n ≤ maxLen) (hf : ∀ i x, l[i]? = some x → f i = .bool x) : RB w w.heap.size ⟨some ⟨b, 0, none⟩, n, n⟩ l :=
  ⟨hl, Nat.le_refl _, hm, fun hn => ⟨b, 0, rfl, h.lt, fun k x hx => by
    have hk : k < n := by rw [← hl]; exact (List.getElem?_eq_some_iff.1 hx).1
    show w.cell? ⟨b, 0 + k, none⟩ = some (.bool x)
    rw [Nat.zero_add, h.cell hk, hf k x hx]⟩, fun h => by cases h⟩
theorem info4 : (Try.prog.info? 4).map (fun i => (i.zero, i.size, i.bytes)) = some (some (.bool false), 1, 1) := by kernel_rfl
theorem make_bools (n : Nat) (hn : n ≤ 2 ^ 48) (w : World) : (Instr.makeSlice 26 (.int .i64 (n : Int)) (.int .i64 (n : Int))).run Try.prog w = .ok (.slice (some ⟨w.heap.size, 0, none⟩) n n) (w.alloc (.cells (madeCells #[.bool false] n) 4)) :=
  run_make_row' 26 4 (.bool false) 1 Try.underlying26 info4 rfl .i64 .i64 n (by omega) (by omega) w
def markV (f : Nat → Bool) (k : Nat) : Nat → Value := fun i => .bool (decide (i < k) && f i)
theorem mark_step {w : World} {b n k : Nat} {f : Nat → Bool} {v : Bool} (h : w.rowIs b 4 n (markV f k)) (hv : f k = v) : (w.setCell ⟨b, k, none⟩ (.bool v)).rowIs b 4 n (markV f (k + 1)) :=
  (h.set k (.bool v)).congr (fun i _ => by
    unfold markV
    by_cases e : i = k
    · subst e; simp [hv]
    · rw [if_neg e]
      have : decide (i < k + 1) = decide (i < k) := by rw [decide_eq_decide]; omega
      rw [this])
theorem mark_zero {w : World} {b n : Nat} {f : Nat → Bool} (h : w.rowIs b 4 n (fun _ => .bool false)) : w.rowIs b 4 n (markV f 0) := h.congr (fun i _ => by simp [markV])
theorem mark_done {w : World} {b n : Nat} {f : Nat → Bool} (h : w.rowIs b 4 n (markV f n)) (hm : n ≤ maxLen) : RB w w.heap.size ⟨some ⟨b, 0, none⟩, n, n⟩ ((List.range n).map f) :=
  rb_of h (by simp) hm (fun i x hx => by
    rw [List.getElem?_map] at hx
    obtain ⟨j, hj, rfl⟩ := Option.map_eq_some_iff.1 hx
    obtain ⟨hl, e⟩ := List.getElem?_eq_some_iff.1 hj
    have hji : j = i := by rw [← e]; simp
    subst hji
    have : j < n := by simpa using hl
    simp [markV, this])

def dAt (g : GT) (who : Int) (v : Nat) : Bool := (g.own.getD v 0 == who) && ((g.nxt.getD v []).length == 0)
def deadL (g : GT) (who : Int) : List Bool := if mayG g = 0 then (List.range g.own.length).map (dAt g who) else []
def hasB (l : List Bool) (v : Int) : Bool := decide (0 ≤ v) && l.getD v.toNat false
def rowL (n : Nat) (l : List Bool) : List Bool := (List.range n).map fun v => l.getD v false

theorem getD_at {α : Type} {l : List α} {k : Nat} {x d : α} (h : l[k]? = some x) : l.getD k d = x := by simp [List.getD, h]
theorem getD_out {α : Type} {l : List α} {k : Nat} {d : α} (h : l.length ≤ k) : l.getD k d = d := by simp [List.getD, h]
theorem has_any (B : Nat) (A : Option Addr) (n c : Nat) (l : List Bool) (v : Int) (w : World) (hr : RB w B ⟨A, n, c⟩ l) :
    Calls Try.prog 26 #[.slice A n c, .int .i64 v] w fun e w' => e = .returned (.bool (hasB l v)) ∧ w' = w := by
  have hn : n ≤ 2 ^ 63 - 1 := Nat.le_trans hr.2.1 hr.2.2.1
  have Hl := hide hr.len
  have Hr := hide hr
  clear hr
  have Hh : Hid (hasB l v = (decide (0 ≤ v) && l.getD v.toNat false)) := hide rfl
  cases h0 : decide (0 ≤ v)
  · have Hf : Hid (hasB l v = false) := hide (by rw [Hh.out, h0]; rfl)
    go_enter Try.func26, Try.ntmps26
    go_wp2_with fail
    go_ret
    exact ⟨ret_bool Hf.out.symm, rfl⟩
  · obtain ⟨k, rfl⟩ := Int.eq_ofNat_of_zero_le (of_decide_eq_true h0)
    by_cases hlt : k < n
    · have hlt' : (k : Int) < (n : Int) := by omega
      obtain ⟨b, off, x, rfl, hb, hx, hc⟩ := Hr.out.at_ hlt
      have Hf : Hid (hasB l k = x) := hide (by rw [Hh.out, h0]; simp only [Int.toNat_natCast, Bool.true_and]; exact getD_at hx)
      clear h0 hx
      have h0' : (0 : Int) ≤ (k : Int) := by omega
      go_enter Try.func26, Try.ntmps26
      go_wp2_with fail
      go_ret
      exact ⟨ret_bool Hf.out.symm, rfl⟩
    · have hlt' : ¬ (k : Int) < (n : Int) := by omega
      have Hf : Hid (hasB l k = false) := hide (by rw [Hh.out, h0]; simp only [Int.toNat_natCast, Bool.true_and]; exact getD_out (by rw [Hl.out]; exact Nat.le_of_not_lt hlt))
      clear h0
      have h0' : (0 : Int) ≤ (k : Int) := by omega
      go_enter Try.func26, Try.ntmps26
      go_wp2_with fail
      go_ret
      exact ⟨ret_bool Hf.out.symm, rfl⟩
theorem isIn_any (B : Nat) (A : Option Addr) (n c : Nat) (l : List Bool) (k : Nat) (w : World) (hr : RB w B ⟨A, n, c⟩ l) :
    Calls Try.prog 37 #[.slice A n c, .int .i64 (k : Int)] w fun e w' => e = .returned (.bool (l.getD k false)) ∧ w' = w := by
  have hn : n ≤ 2 ^ 63 - 1 := Nat.le_trans hr.2.1 hr.2.2.1
  have Hl := hide hr.len
  have Hr := hide hr
  clear hr
  generalize hv : l.getD k false = v
  have Hv := hide hv
  clear hv
  by_cases hlt : k < n
  · have hlt' : (k : Int) < (n : Int) := by omega
    obtain ⟨b, off, x, rfl, hb, hx, hc⟩ := Hr.out.at_ hlt
    have Hf : Hid (v = x) := hide (by rw [← Hv.out]; exact getD_at hx)
    clear hx
    have h0' : (0 : Int) ≤ (k : Int) := by omega
    go_enter Try.func37, Try.ntmps37
    go_wp2_with fail
    go_ret
    exact ⟨ret_bool Hf.out.symm, rfl⟩
  · have hlt' : ¬ (k : Int) < (n : Int) := by omega
    have Hf : Hid (v = false) := hide (by rw [← Hv.out]; exact getD_out (by rw [Hl.out]; exact Nat.le_of_not_lt hlt))
    go_enter Try.func37, Try.ntmps37
    go_wp2_with fail
    go_ret
    exact ⟨ret_bool Hf.out.symm, rfl⟩
set_option maxHeartbeats 1000000 in
theorem row_any (B : Nat) (OA NA : Option Addr) (on oc nn nc : Nat) (g : GT) (A : Option Addr) (n c : Nat) (l : List Bool) (w : World) (hB : B ≤ w.heap.size) (hg : RG w B ⟨OA, on, oc⟩ ⟨NA, nn, nc⟩ g) (hr : RB w B ⟨A, n, c⟩ l) (hm : g.own.length ≤ 3000) :
    Calls Try.prog 34 #[.agg #[.slice OA on oc, .slice NA nn nc], .slice A n c] w (RowPost w (rowL g.own.length l)) := by
  have hl1 := hg.own.len
  simp only at hl1
  rw [hl1] at hm ⊢
  clear hl1 hg
  have hbx : Below w.heap.size w ((w.alloc (.cells #[.slice OA on oc, .slice NA nn nc] 25)).alloc (.cells (madeCells #[.bool false] on) 4)) := ((Below.refl _ _).alloc (Nat.le_refl _) _).alloc (by simp) _
  have hz0 : (w.alloc (.cells #[.slice OA on oc, .slice NA nn nc] 25)).heap.size = w.heap.size + 1 := by simp
  have hrow := mark_zero (f := fun v => l.getD v false) (World.rowIs_made (w.alloc (.cells #[.slice OA on oc, .slice NA nn nc] 25)) (.bool false) on 4)
  rw [hz0] at hrow
  have Hrow := hide hrow
  have Hr := hide hr
  have hmk := make_bools on (by omega)
  have hz2 : w.heap.size + 2 = ((w.alloc (.cells #[.slice OA on oc, .slice NA nn nc] 25)).alloc (.cells (madeCells #[.bool false] on) 4)).heap.size := by simp
  clear hrow hr hz0
  go_enter Try.func34, Try.ntmps34
  go_wp2_with fail
  clear hmk
  generalize (w.alloc (.cells #[.slice OA on oc, .slice NA nn nc] 25)).alloc (.cells (madeCells #[.bool false] on) 4) = w2 at *
  have hz3 : w.heap.size + 2 ≤ w2.heap.size := by omega
  clear hz2
  go_loopw [13] (fun i wr => ∃ k : Nat, k ≤ on ∧ i = .int .i64 k ∧ wr.rowIs (w.heap.size + 1) 4 on (markV (fun v => l.getD v false) k) ∧ Below w.heap.size w wr) (fun i _ => on - (intOf i).toNat)
  case atStart => exact ⟨0, Nat.zero_le _, rfl, Hrow.out, hbx⟩
  case round =>
    obtain ⟨k, hk, rfl, hrw, hb⟩ := hrel
    have Hrw := hide hrw
    by_cases hlt : k < on
    · have hlt' : (k : Int) < (on : Int) := by omega
      obtain ⟨u0, hu0⟩ : ∃ u, wr.cell? ⟨w.heap.size + 1, k, none⟩ = some u := ⟨_, hrw.cell hlt⟩
      have hfz := hrw.frozen k
      have Hst := hide (mark_step hrw (v := hasB l k) (by simp [hasB]))
      have Hb2 := hide (hb.setCell (p := ⟨w.heap.size + 1, k, none⟩) (by show w.heap.size ≤ w.heap.size + 1; omega) (.bool (hasB l k)))
      clear hrw
      go_wp2_with fail
      refine (has_any B A n c l k wr (Hr.out.below (hb.mono hB))).mono ?_
      rintro e w3 ⟨rfl, rfl⟩
      go_wp2_with fail
      go_roundw
      case rel => exact ⟨k + 1, by omega, by go_num, Hst.out, Hb2.out⟩
      case measure => simp [intOf]; omega
    · have hlt' : ¬ (k : Int) < (on : Int) := by omega
      obtain rfl : k = on := by omega
      clear hrw
      go_wp2_with fail
      go_ret
      exact ⟨⟨_, _, _⟩, rfl, mark_done Hrw.out (by unfold maxLen; omega), hb⟩

set_option maxHeartbeats 1000000 in
theorem ddead_any (B : Nat) (OA NA : Option Addr) (on oc nn nc : Nat) (g : GT) (who : Int) (w : World) (hB : B ≤ w.heap.size) (hg : RG w B ⟨OA, on, oc⟩ ⟨NA, nn, nc⟩ g) :
    Calls Try.prog 20 #[.agg #[.slice OA on oc, .slice NA nn nc], .int .i64 who] w (RowPost w (deadL g who)) := by
  have hbx : Below w.heap.size w (w.alloc (.cells #[.slice OA on oc, .slice NA nn nc] 25)) := (Below.refl _ _).alloc (Nat.le_refl _) _
  have Hg := hide (hg.below (hbx.mono hB))
  have hz0 : w.heap.size + 1 ≤ (w.alloc (.cells #[.slice OA on oc, .slice NA nn nc] 25)).heap.size := by simp
  have Hl1 := hide hg.own.len
  have Hbox := hide (box_new w OA NA on oc nn nc 25)
  clear hg
  go_enter Try.func20, Try.ntmps20
  go_wp2_with fail
  generalize w.alloc (.cells #[.slice OA on oc, .slice NA nn nc] 25) = w1 at *
  refine (may_any B OA NA on oc nn nc g w1 (by omega) Hg.out).mono ?_
  rintro e w2 ⟨rfl, hb2⟩
  have hz2 := hb2.size
  have hbw2 := hbx.trans (hb2.mono (by omega))
  have Hg2 := hide (Hg.out.below (hb2.mono (by omega)))
  obtain ⟨c0, c1⟩ := Hbox.out.below hb2 (by omega)
  simp only [SL.v] at c0 c1
  clear hb2 Hg Hbox
  by_cases hm : mayG g = 0
  · have hm' : (mayG g != 0) = false := by simp [hm]
    obtain ⟨m1, m2, m3⟩ := may_facts hm
    have Hnn : Hid (nn = on) := hide (by have h1 := Hg2.out.own.len; have h2 := Hg2.out.nxt.len; simp only at h1 h2; omega)
    have hon : on ≤ 3000 := by have h1 := Hg2.out.own.len; simp only at h1; omega
    have Hd : Hid (deadL g who = (List.range on).map (dAt g who)) := hide (by unfold deadL; rw [if_pos hm, Hl1.out])
    clear hm m1 m2 m3
    have hmk := make_bools on (by omega)
    have hrow := mark_zero (f := dAt g who) (World.rowIs_made w2 (.bool false) on 4)
    have Hrow := hide hrow
    have hb3 : Below w.heap.size w (w2.alloc (.cells (madeCells #[.bool false] on) 4)) := hbw2.alloc (by omega) _
    have hb23 : Below w2.heap.size w2 (w2.alloc (.cells (madeCells #[.bool false] on) 4)) := (Below.refl _ _).alloc (Nat.le_refl _) _
    have c0' := (hb23.cell (p := ⟨w.heap.size, 0, none⟩) (by show w.heap.size < _; omega)).trans c0
    clear hrow
    go_wp2_with fail
    clear hmk c0'
    go_loopw [18] (fun i wr => ∃ k : Nat, k ≤ on ∧ i = .int .i64 k ∧ wr.rowIs w2.heap.size 4 on (markV (dAt g who) k) ∧ Below w2.heap.size w2 wr) (fun i _ => on - (intOf i).toNat)
    case atStart => exact ⟨0, Nat.zero_le _, rfl, Hrow.out, hb23⟩
    case round =>
      obtain ⟨k, hk, rfl, hrw, hb⟩ := hrel
      have hzr := hb.size
      have Hrw := hide hrw
      have hbw := hbw2.trans (hb.mono (by omega))
      by_cases hlt : k < on
      · have hlt' : (k : Int) < (on : Int) := by omega
        have hg3 := Hg2.out.below (hb.mono (by omega))
        obtain ⟨b, off, x, rfl, hbB, hx, hc⟩ := hg3.own.at_ hlt
        obtain ⟨b2, off2, r, A2, n2, k2, rfl, hbB2, hr, hc2, hri⟩ := hg3.nxt.at_ (show k < nn by rw [Hnn.out]; exact hlt)
        have hltn : (k : Int) < (nn : Int) := by rw [Hnn.out]; exact hlt'
        have Hat : Hid (dAt g who k = ((x == who) && (n2 == 0))) := hide (by unfold dAt; rw [getD_at hx, getD_at hr, hri.len])
        have e0 : wr.cell? ⟨w.heap.size, 0, none⟩ = some (.slice (some ⟨b, off, none⟩) on oc) := (hb.cell (p := ⟨w.heap.size, 0, none⟩) (by show w.heap.size < _; omega)).trans c0
        have e1 : wr.cell? ⟨w.heap.size, 1, none⟩ = some (.slice (some ⟨b2, off2, none⟩) nn nc) := (hb.cell (p := ⟨w.heap.size, 1, none⟩) (by show w.heap.size < _; omega)).trans c1
        clear hx hr hri hg3
        obtain ⟨u0, hu0⟩ : ∃ u, wr.cell? ⟨w2.heap.size, k, none⟩ = some u := ⟨_, hrw.cell hlt⟩
        have hfz := hrw.frozen k
        cases hxw : x == who
        · have Hst := hide (mark_step hrw (v := false) (by rw [Hat.out, hxw]; rfl))
          have Hb2 := hide (hb.setCell (p := ⟨w2.heap.size, k, none⟩) (Nat.le_refl _) (.bool false))
          clear hrw
          go_wp2_with fail
          go_roundw
          case rel => exact ⟨k + 1, by omega, by go_num, Hst.out, Hb2.out⟩
          case measure => simp [intOf]; omega
        · cases hn0 : ((n2 : Int) == 0)
          · have Hst := hide (mark_step hrw (v := false) (by rw [Hat.out, hxw]; simp at hn0 ⊢; omega))
            have Hb2 := hide (hb.setCell (p := ⟨w2.heap.size, k, none⟩) (Nat.le_refl _) (.bool false))
            clear hrw
            go_wp2_with fail
            go_roundw
            case rel => exact ⟨k + 1, by omega, by go_num, Hst.out, Hb2.out⟩
            case measure => simp [intOf]; omega
          · have Hst := hide (mark_step hrw (v := true) (by rw [Hat.out, hxw]; simp at hn0 ⊢; omega))
            have Hb2 := hide (hb.setCell (p := ⟨w2.heap.size, k, none⟩) (Nat.le_refl _) (.bool true))
            clear hrw
            go_wp2_with fail
            go_roundw
            case rel => exact ⟨k + 1, by omega, by go_num, Hst.out, Hb2.out⟩
            case measure => simp [intOf]; omega
      · have hlt' : ¬ (k : Int) < (on : Int) := by omega
        obtain rfl : k = on := by omega
        clear hrw c0 c1
        go_wp2_with fail
        go_ret
        exact ⟨⟨_, _, _⟩, rfl, by rw [Hd.out]; exact mark_done Hrw.out (by unfold maxLen; omega), hbw⟩
  · have hm' : (mayG g != 0) = true := by simp [hm]
    have Hd : Hid (deadL g who = []) := hide (by unfold deadL; rw [if_neg hm])
    clear hm
    go_wp2_with fail
    go_ret
    rw [Hd.out]
    exact row_nil hbw2

set_option maxHeartbeats 1000000 in
theorem rdead_any (B : Nat) (OA NA : Option Addr) (on oc nn nc : Nat) (g : GT) (who : Int) (w : World) (hB : B ≤ w.heap.size) (hg : RG w B ⟨OA, on, oc⟩ ⟨NA, nn, nc⟩ g) :
    Calls Try.prog 21 #[.agg #[.slice OA on oc, .slice NA nn nc], .int .i64 who] w (RowPost w (deadL g who)) := by
  have hbx : Below w.heap.size w (w.alloc (.cells #[.slice OA on oc, .slice NA nn nc] 25)) := (Below.refl _ _).alloc (Nat.le_refl _) _
  have Hg := hide (hg.below (hbx.mono hB))
  have hz0 : w.heap.size + 1 ≤ (w.alloc (.cells #[.slice OA on oc, .slice NA nn nc] 25)).heap.size := by simp
  have Hl1 := hide hg.own.len
  have Hbox := hide (box_new w OA NA on oc nn nc 25)
  clear hg
  go_enter Try.func21, Try.ntmps21
  go_wp2_with fail
  generalize w.alloc (.cells #[.slice OA on oc, .slice NA nn nc] 25) = w1 at *
  refine (rmay_any B OA NA on oc nn nc g w1 (by omega) Hg.out).mono ?_
  rintro e w2 ⟨rfl, hb2⟩
  have hz2 := hb2.size
  have hbw2 := hbx.trans (hb2.mono (by omega))
  have Hg2 := hide (Hg.out.below (hb2.mono (by omega)))
  obtain ⟨c0, c1⟩ := Hbox.out.below hb2 (by omega)
  simp only [SL.v] at c0 c1
  clear hb2 Hg Hbox
  by_cases hm : mayG g = 0
  · have hm' : (mayG g != 0) = false := by simp [hm]
    obtain ⟨m1, m2, m3⟩ := may_facts hm
    have Hnn : Hid (nn = on) := hide (by have h1 := Hg2.out.own.len; have h2 := Hg2.out.nxt.len; simp only at h1 h2; omega)
    have hon : on ≤ 3000 := by have h1 := Hg2.out.own.len; simp only at h1; omega
    have Hd : Hid (deadL g who = (List.range on).map (dAt g who)) := hide (by unfold deadL; rw [if_pos hm, Hl1.out])
    clear hm m1 m2 m3
    have hmk := make_bools on (by omega)
    have hrow := mark_zero (f := dAt g who) (World.rowIs_made w2 (.bool false) on 4)
    have Hrow := hide hrow
    have hb3 : Below w.heap.size w (w2.alloc (.cells (madeCells #[.bool false] on) 4)) := hbw2.alloc (by omega) _
    have hb23 : Below w2.heap.size w2 (w2.alloc (.cells (madeCells #[.bool false] on) 4)) := (Below.refl _ _).alloc (Nat.le_refl _) _
    have c0' := (hb23.cell (p := ⟨w.heap.size, 0, none⟩) (by show w.heap.size < _; omega)).trans c0
    clear hrow
    go_wp2_with fail
    clear hmk c0'
    go_loopw [16] (fun i wr => ∃ k : Nat, k ≤ on ∧ i = .int .i64 k ∧ wr.rowIs w2.heap.size 4 on (markV (dAt g who) k) ∧ Below w2.heap.size w2 wr) (fun i _ => on - (intOf i).toNat)
    case atStart => exact ⟨0, Nat.zero_le _, rfl, Hrow.out, hb23⟩
    case round =>
      obtain ⟨k, hk, rfl, hrw, hb⟩ := hrel
      have hzr := hb.size
      have Hrw := hide hrw
      have hbw := hbw2.trans (hb.mono (by omega))
      by_cases hlt : k < on
      · have hlt' : (k : Int) < (on : Int) := by omega
        have hg3 := Hg2.out.below (hb.mono (by omega))
        obtain ⟨b, off, x, rfl, hbB, hx, hc⟩ := hg3.own.at_ hlt
        obtain ⟨b2, off2, r, A2, n2, k2, rfl, hbB2, hr, hc2, hri⟩ := hg3.nxt.at_ (show k < nn by rw [Hnn.out]; exact hlt)
        have hltn : (k : Int) < (nn : Int) := by rw [Hnn.out]; exact hlt'
        have Hat : Hid (dAt g who k = ((x == who) && (n2 == 0))) := hide (by unfold dAt; rw [getD_at hx, getD_at hr, hri.len])
        have e0 : wr.cell? ⟨w.heap.size, 0, none⟩ = some (.slice (some ⟨b, off, none⟩) on oc) := (hb.cell (p := ⟨w.heap.size, 0, none⟩) (by show w.heap.size < _; omega)).trans c0
        have e1 : wr.cell? ⟨w.heap.size, 1, none⟩ = some (.slice (some ⟨b2, off2, none⟩) nn nc) := (hb.cell (p := ⟨w.heap.size, 1, none⟩) (by show w.heap.size < _; omega)).trans c1
        clear hx hr hri hg3
        obtain ⟨u0, hu0⟩ : ∃ u, wr.cell? ⟨w2.heap.size, k, none⟩ = some u := ⟨_, hrw.cell hlt⟩
        have hfz := hrw.frozen k
        cases hxw : x == who
        · have Hst := hide (mark_step hrw (v := false) (by rw [Hat.out, hxw]; rfl))
          have Hb2 := hide (hb.setCell (p := ⟨w2.heap.size, k, none⟩) (Nat.le_refl _) (.bool false))
          clear hrw
          go_wp2_with fail
          go_roundw
          case rel => exact ⟨k + 1, by omega, by go_num, Hst.out, Hb2.out⟩
          case measure => simp [intOf]; omega
        · cases hn0 : ((n2 : Int) == 0)
          · have Hst := hide (mark_step hrw (v := false) (by rw [Hat.out, hxw]; simp at hn0 ⊢; omega))
            have Hb2 := hide (hb.setCell (p := ⟨w2.heap.size, k, none⟩) (Nat.le_refl _) (.bool false))
            clear hrw
            go_wp2_with fail
            go_roundw
            case rel => exact ⟨k + 1, by omega, by go_num, Hst.out, Hb2.out⟩
            case measure => simp [intOf]; omega
          · have Hst := hide (mark_step hrw (v := true) (by rw [Hat.out, hxw]; simp at hn0 ⊢; omega))
            have Hb2 := hide (hb.setCell (p := ⟨w2.heap.size, k, none⟩) (Nat.le_refl _) (.bool true))
            clear hrw
            go_wp2_with fail
            go_roundw
            case rel => exact ⟨k + 1, by omega, by go_num, Hst.out, Hb2.out⟩
            case measure => simp [intOf]; omega
      · have hlt' : ¬ (k : Int) < (on : Int) := by omega
        obtain rfl : k = on := by omega
        clear hrw c0 c1
        go_wp2_with fail
        go_ret
        exact ⟨⟨_, _, _⟩, rfl, by rw [Hd.out]; exact mark_done Hrw.out (by unfold maxLen; omega), hbw⟩
  · have hm' : (mayG g != 0) = true := by simp [hm]
    have Hd : Hid (deadL g who = []) := hide (by unfold deadL; rw [if_neg hm])
    clear hm
    go_wp2_with fail
    go_ret
    rw [Hd.out]
    exact row_nil hbw2
end Go.Proofs.Ytdcdpknlloffjaa.Gr
