/- The walk of dom.Values. -/
import Derived.Test.YtkjclofkfmkbdaaVMay
import Derived.Deep.OwnRows
import Derived.RegionTactic
import Derived.BigRegion
namespace Go.Proofs.Ytkjclofkfmkbdaa.Dom
open Go.RowKit Go.WideMaps Go.Maps
set_option linter.unusedSimpArgs false
set_option linter.unusedVariables false

def valsL : List V → Int → List Int
  | [], _ => []
  | v :: r, s => (v.lo + s % v.size) :: valsL r (s / v.size)
theorem valsL_length : ∀ (l : List V) (s : Int), (valsL l s).length = l.length
  | [], _ => rfl
  | v :: r, s => by simp [valsL, valsL_length r]

theorem mayGo_all : ∀ (l : List V) (seen : List (List UInt8)), mayGo seen l = 0 → ∀ v ∈ l, v.may = 0 ∧ nameB v.nm = true
  | [], _, _ => by simp
  | u :: r, seen, h => by
    rw [mayGo] at h
    split at h
    · omega
    · split at h
      · omega
      · rename_i h1 h2
        intro v hv
        rcases List.mem_cons.1 hv with rfl | hv
        · exact ⟨by simpa using h2, by
            rcases Bool.eq_false_or_eq_true (nameB v.nm) with h3 | h3
            · exact h3
            · exact absurd (.inl h3) h1⟩
        · exact mayGo_all r _ h v hv
theorem mayL_zero {l : List V} (h : mayL l = 0) : mayGo [] l = 0 ∧ totL l ≠ 0 := by
  unfold mayL at h
  split at h
  · exact absurd h (by assumption)
  · rename_i h1
    split at h
    · omega
    · exact ⟨by simpa using h1, by assumption⟩
theorem mayL_all {l : List V} (h : mayL l = 0) : ∀ v ∈ l, v.may = 0 := fun v hv => (mayGo_all l _ (mayL_zero h).1 v hv).1
theorem totGo_bd : ∀ (l : List V) (t : Int), 0 ≤ t → t ≤ 512 → 0 ≤ totGo t l ∧ totGo t l ≤ 512
  | [], t, h0, h1 => ⟨h0, h1⟩
  | v :: r, t, h0, h1 => by
    rw [totGo]
    split
    · omega
    · split
      · omega
      · have := (size_bd v.srt v.lo v.hi).1
        exact totGo_bd r _ (Int.mul_nonneg h0 this) (by omega)
theorem totL_bd (l : List V) : 0 ≤ totL l ∧ totL l ≤ 512 := by
  unfold totL; split
  · omega
  · exact totGo_bd l 1 (by omega) (by omega)
theorem totL_len {l : List V} (h : totL l ≠ 0) : l.length ≤ 6 := by
  unfold totL at h; split at h
  · exact absurd rfl h
  · omega

theorem info3 : (Try.prog.info? 3).map (fun i => (i.zero, i.size, i.bytes)) = some (some (.int .i64 0), 1, 8) := by kernel_rfl
theorem wrap64_small (n : Int) (h1 : -100000 ≤ n) (h2 : n ≤ 100000) : wrap64 n = n := by unfold wrap64; omega
def GoodVals (w : World) (n : Nat) (xs : List Int) (e : Ending) (w' : World) : Prop :=
  ∃ g, e = .returned (.tuple #[.slice (some ⟨g, 0, none⟩) n n, .bool true]) ∧ w.heap.size ≤ g ∧ w'.rowIs g 3 n (fun i => .int .i64 (xs.getD i 0)) ∧ Below w.heap.size w w'

def partV (xs : List Int) (k : Nat) (i : Nat) : Value := .int .i64 (if i < k then xs.getD i 0 else 0)

theorem vals_step {l : List V} {s st : Int} {k : Nat} {v : V} (h : l[k]? = some v) (hd : (valsL l s).drop k = valsL (l.drop k) st) :
    (valsL l s)[k]? = some (v.lo + st % v.size) ∧ (valsL l s).drop (k + 1) = valsL (l.drop (k + 1)) (st / v.size) := by
  rw [drop_at h, valsL] at hd
  constructor
  · have := congrArg (fun x => x[0]?) hd
    simpa [List.getElem?_drop] using this
  · have := congrArg (fun x => x.drop 1) hd
    simpa [List.drop_drop, Nat.add_comm] using this
theorem part_step {xs : List Int} {k : Nat} {x : Int} (h : xs[k]? = some x) (i : Nat) : (if i = k then Value.int .i64 x else partV xs k i) = partV xs (k + 1) i := by
  unfold partV
  by_cases e : i = k
  · subst e; simp [List.getD, h]
  · rw [if_neg e]
    by_cases e2 : i < k
    · rw [if_pos e2, if_pos (by omega)]
    · rw [if_neg e2, if_neg (by omega)]

set_option maxHeartbeats 1000000 in
theorem vals_bad (A : Option Addr) (n c B : Nat) (l : List V) (s : Int) (w : World) (hm : n ≤ maxLen) (hB : B ≤ w.heap.size) (hv : RV w B A n l) (hnm : ∀ v ∈ l, v.nm.size ≤ maxLen) (hbad : mayL l ≠ 0 ∨ s < 0 ∨ totL l ≤ s) :
    Calls Try.prog 27 #[.slice A n c, .int .i64 s] w fun e w' => e = .returned (.tuple #[.slice none 0 0, .bool false]) ∧ Below w.heap.size w w' := by
  have Hm := hide hm
  have Hnm := hide hnm; clear hnm
  have Hv := hide hv; clear hv
  by_cases h1 : mayL l = 0
  · have h1b : (mayL l != 0) = false := by simp [h1]
    have H1 := hide h1; clear h1
    by_cases h2 : s < 0
    · have h2b : decide (s < 0) = true := by simp [h2]
      clear hbad hm
      go_enter Try.func27, Try.ntmps27
      go_wp2_with fail
      refine (may_any A n c B l _ Hm.out hB Hv.out Hnm.out).mono ?_
      rintro e w1 ⟨rfl, hb1⟩
      go_wp2_with fail
      go_ret2
      exact ⟨rfl, hb1⟩
    · have h2b : decide (s < 0) = false := by simp [h2]
      have h3 : totL l ≤ s := by rcases hbad with h | h | h <;> first | exact h | exact absurd h h2 | exact absurd H1.out h
      have h3b : decide (totL l ≤ s) = true := by simp [h3]
      clear hbad hm
      go_enter Try.func27, Try.ntmps27
      go_wp2_with fail
      refine (may_any A n c B l _ Hm.out hB Hv.out Hnm.out).mono ?_
      rintro e w1 ⟨rfl, hb1⟩
      go_wp2_with fail
      refine (total_any A n c B l _ Hm.out (Nat.le_trans hB hb1.size) (Hv.out.below (hb1.mono hB))).mono ?_
      rintro e w2 ⟨rfl, hb2⟩
      have hbw2 := hb1.trans (hb2.mono hb1.size)
      go_wp2_with fail
      go_ret2
      exact ⟨rfl, hbw2⟩
  · have h1b : (mayL l != 0) = true := by simp [h1]
    clear hbad hm h1
    go_enter Try.func27, Try.ntmps27
    go_wp2_with fail
    refine (may_any A n c B l _ Hm.out hB Hv.out Hnm.out).mono ?_
    rintro e w1 ⟨rfl, hb1⟩
    go_wp2_with fail
    go_ret2
    exact ⟨rfl, hb1⟩

set_option maxHeartbeats 1000000 in
theorem vals_good (A : Option Addr) (n c B : Nat) (l : List V) (s : Int) (w : World) (hB : B ≤ w.heap.size) (hv : RV w B A n l) (hnm : ∀ v ∈ l, v.nm.size ≤ maxLen) (h1 : mayL l = 0) (h2 : 0 ≤ s) (h3 : s < totL l) :
    Calls Try.prog 27 #[.slice A n c, .int .i64 s] w (GoodVals w n (valsL l s)) := by
  have hn6 : n ≤ 6 := by have := totL_len (mayL_zero h1).2; rw [hv.1] at this; exact this
  have hm : n ≤ maxLen := by unfold maxLen; omega
  have hs512 : s < 512 := by have := (totL_bd l).2; omega
  have Hm := hide hm
  have Hn := hide hv.1
  have Hnm := hide hnm; clear hnm
  have Hv := hide hv; clear hv
  have h1b : (mayL l != 0) = false := by simp [h1]
  have Hall := hide (mayL_all h1)
  have H1 := hide h1; clear h1
  have h2b : decide (s < 0) = false := by simp; omega
  have h3b : decide (totL l ≤ s) = false := by simp; omega
  have Hl := hide (valsL_length l s)
  clear hm
  have hmk := run_make_row' (P := Try.prog) 45 3 (.int .i64 0) 8 Try.underlying45 info3 rfl .i64 .i64 n (by omega) (by omega)
  go_enter Try.func27, Try.ntmps27
  go_wp2_with fail
  refine (may_any A n c B l _ Hm.out hB Hv.out Hnm.out).mono ?_
  rintro e w1 ⟨rfl, hb1⟩
  go_wp2_with fail
  refine (total_any A n c B l _ Hm.out (Nat.le_trans hB hb1.size) (Hv.out.below (hb1.mono hB))).mono ?_
  rintro e w2 ⟨rfl, hb2⟩
  have hbw2 := hb1.trans (hb2.mono hb1.size)
  go_wp2_with fail
  clear hmk
  have hbw3 : Below w.heap.size w (w2.alloc (.cells (madeCells #[.int .i64 0] n) 3)) := hbw2.alloc hbw2.size _
  have hrow := World.rowIs_made w2 (.int .i64 0) n 3
  generalize hg : w2.heap.size = g at *
  have hgw : w.heap.size ≤ g := by rw [← hg]; exact hbw2.size
  clear hg
  generalize hw3 : w2.alloc (.cells (madeCells #[.int .i64 0] n) 3) = w3 at *
  clear hw3 hb1 hb2 hbw2
  go_loopw [1, 28] (fun t i wr => ∃ (k : Nat) (st : Int), k ≤ n ∧ i = .int .i64 k ∧ t = .int .i64 st ∧ 0 ≤ st ∧ st < 512 ∧ Hid ((valsL l s).drop k = valsL (l.drop k) st) ∧ wr.rowIs g 3 n (partV (valsL l s) k) ∧ Below w.heap.size w wr) (fun _ i _ => n - (intOf i).toNat)
  case atStart => exact ⟨0, s, Nat.zero_le _, rfl, rfl, h2, hs512, hide rfl, hrow.congr (fun i hi => by simp [partV]), hbw3⟩
  case round =>
    obtain ⟨k, st, hk, rfl, rfl, hst0, hst1, HT, hrw, hb⟩ := hrel
    by_cases hlt : k < n
    · have hlt' : ((k : Int) < (n : Int)) := by omega
      obtain ⟨b, off, v, rfl, hbB, hlk, c0, c1, c2, c3, c4⟩ := (Hv.out.below (hb.mono hB)).at_ hlt
      have hmay := Hall.out v (List.mem_of_getElem? hlk)
      have sz1 := size_pos hmay
      have sz2 := (size_bd v.srt v.lo v.hi).2
      obtain ⟨lo1, lo2⟩ := may_lo hmay
      have Hlk := hide hlk; clear hlk hmay
      have hsz := hb.size
      go_wp2_with fail
      refine (size_any _ _ _ _ _ _).mono ?_
      rintro e w4 ⟨rfl, hb4⟩
      have hbw4 := below_box hb (Nat.le_refl _) hb4
      obtain ⟨d0, d1, d2, d3, d4⟩ := (box_new wr v 52).below hb4 (by simp)
      clear c0 c1 c2 c3 c4
      generalize hs : sizeOfV v.srt v.lo v.hi = z at *
      have Hs : Hid (v.size = z) := hide hs
      clear hs
      have hrw4 : w4.rowIs g 3 n (partV (valsL l s) k) := (hrw.alloc _).of_block (hb4.block g (by have := hrw.lt; simp; omega))
      obtain ⟨u, hu⟩ : ∃ u, w4.cell? ⟨g, k, none⟩ = some u := ⟨_, hrw4.cell hlt⟩
      have hfz := hrw4.frozen k
      have Hrw4 := hide hrw4
      clear hrw4 hrw hrow
      go_wp2_with fail
      go_region
      have hr1 : 0 ≤ st % z := Int.emod_nonneg _ (by omega)
      have hr2 : st % z < z := Int.emod_lt_of_pos st (by omega)
      rw [show wrap64 (v.lo + st % z) = v.lo + st % z from wrap64_small _ (by omega) (by omega)]
      have hq0 : 0 ≤ st / z := Int.ediv_nonneg hst0 (by omega)
      have hq1 : st / z ≤ st := Int.ediv_le_self _ hst0
      have Hstep := hide (vals_step Hlk.out HT.out)
      rw [Hs.out] at Hstep
      have hbw5 : Below w.heap.size w (w4.setCell ⟨g, k, none⟩ (.int .i64 (v.lo + st % z))).drew := (hbw4.setCell (by exact hgw) _).drew
      have hrw5 : (w4.setCell ⟨g, k, none⟩ (.int .i64 (v.lo + st % z))).drew.rowIs g 3 n (partV (valsL l s) (k + 1)) := ((Hrw4.out.set k _).congr (fun i hi => part_step Hstep.out.1 i)).drew
      have Hrw5 := hide hrw5
      clear hrw5 d0 d1 d2 d3 d4 hu hfz hb4
      go_wp2_with fail
      go_roundw
      case rel => exact ⟨k + 1, st / z, by omega, by go_num, rfl, by omega, by omega, hide Hstep.out.2, Hrw5.out, hbw5⟩
      case measure => simp [intOf]; omega
    · have hlt' : ¬ ((k : Int) < (n : Int)) := by omega
      obtain rfl : k = n := by omega
      go_wp2_with fail
      go_ret2
      exact ⟨g, rfl, hgw, hrw.congr (fun i hi => by simp [partV, hi]), hb⟩
end Go.Proofs.Ytkjclofkfmkbdaa.Dom
