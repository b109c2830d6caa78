/- The walk of dom.State. -/
import Derived.Test.YtjfomoehedhodaaNum
namespace Go.Proofs.Ytjfomoehedhodaa
open Go.RowKit Go.WideMaps Go.Maps
set_option linter.unusedSimpArgs false
set_option linter.unusedVariables false

def stateOk (l : List V) (xs : List Int) : Bool := decide (mayL l = 0 ∧ xs.length = l.length) && hasAll l xs
def stateV (l : List V) (xs : List Int) : Int := if stateOk l xs = true then numL l xs else 0

set_option maxHeartbeats 1000000 in
theorem state_any (A : Option Addr) (n c B : Nat) (l : List V) (Ai : Option Addr) (m ci : Nat) (xs : List Int) (w : World) (hm : n ≤ maxLen) (hm2 : m ≤ maxLen) (hB : B ≤ w.heap.size) (hv : RV w B A n l) (hi : RI w B Ai m xs) (hnm : ∀ v ∈ l, v.nm.size ≤ maxLen) :
    Calls Try.prog 13 #[.slice A n c, .slice Ai m ci] w fun e w' => e = .returned (.tuple #[.int .i64 (stateV l xs), .bool (stateOk l xs)]) ∧ Below w.heap.size w w' := by
  have Hm := hide hm
  unfold maxLen at hm hm2
  have Hn := hide hv.1
  have Hx := hide hi.1
  have Hv := hide hv; clear hv
  have Hi := hide hi; clear hi
  have Hnm := hide hnm; clear hnm
  by_cases h1 : mayL l = 0
  · have h1b : (mayL l != 0) = false := by simp [h1]
    by_cases h2 : m = n
    · subst h2
      have h2b : ((m : Int) != (m : Int)) = false := by simp
      have ht := (mayL_zero h1).2
      have hn6 : m ≤ 6 := by have := totL_len ht; rw [Hn.out] at this; exact this
      have Hall := hide (mayL_all h1)
      have Hso : Hid (stateOk l xs = hasAll l xs) := hide (by simp [stateOk, h1, Hn.out, Hx.out])
      have H1 := hide h1; have Ht := hide ht; clear h1 ht
      go_enter Try.func13, Try.ntmps13
      go_wp2_with fail
      refine (may_any A m c B l _ Hm.out hB Hv.out Hnm.out).mono ?_
      rintro e w1 ⟨rfl, hb1⟩
      go_wp2_with fail
      go_loopw [20] (fun i wr => ∃ (k : Nat), k ≤ m ∧ i = .int .i64 k ∧ Hid (hasAll l xs = hasAll (l.drop k) (xs.drop k)) ∧ Below w.heap.size w wr) (fun i _ => m - (intOf i).toNat)
      case atStart => exact ⟨0, Nat.zero_le _, rfl, hide rfl, hb1⟩
      case round =>
        obtain ⟨k, hk, rfl, HA, hb⟩ := hrel
        by_cases hlt : k < m
        · have hlt' : ((k : Int) < (m : Int)) := by omega
          obtain ⟨b, off, v, rfl, hbB, hlk, c0, c1, c2, c3, c4⟩ := (Hv.out.below (hb.mono hB)).at_ hlt
          obtain ⟨bi, offi, x, rfl, hbi, hlx, cx⟩ := (Hi.out.below (hb.mono hB)).at_ hlt
          have Hmay := hide (Hall.out v (List.mem_of_getElem? hlk))
          have Hst : Hid (hasAll l xs = (hasB v.srt v.lo v.hi x && hasAll (l.drop (k + 1)) (xs.drop (k + 1)))) := hide (by rw [HA.out, drop_at hlk, drop_at hlx, hasAll])
          clear hlk hlx
          have hsz := hb.size
          have cx' : (wr.alloc (.cells #[.string v.nm, .bool v.env, .int .i64 v.srt, .int .i64 v.lo, .int .i64 v.hi] 36)).cell? ⟨bi, offi + k, none⟩ = some (.int .i64 x) := (World.cell?_alloc_lt wr _ _ (by show bi < _; omega)).trans cx
          clear cx
          go_wp2_with fail
          clear c0 c1 c2 c3 c4
          have hbox := box_new wr v 36
          have hbx : Below w.heap.size w (wr.alloc (.cells #[.string v.nm, .bool v.env, .int .i64 v.srt, .int .i64 v.lo, .int .i64 v.hi] 36)) := hb.alloc hsz _
          have hbz : (wr.alloc (.cells #[.string v.nm, .bool v.env, .int .i64 v.srt, .int .i64 v.lo, .int .i64 v.hi] 36)).heap.size = wr.heap.size + 1 := by simp
          generalize wr.alloc (.cells #[.string v.nm, .bool v.env, .int .i64 v.srt, .int .i64 v.lo, .int .i64 v.hi] 36) = w2 at *
          have hbz2 : w.heap.size ≤ w2.heap.size := by omega
          have hbz3 : wr.heap.size < w2.heap.size := by omega
          have hbz4 : bi < w2.heap.size := by omega
          clear hbz
          obtain ⟨d0, d1, d2, d3, d4⟩ := hbox
          go_region_held3 (fun w' => w'.cell? ⟨wr.heap.size, 0, none⟩ = some (.string v.nm) ∧ w'.cell? ⟨wr.heap.size, 1, none⟩ = some (.bool v.env) ∧ w'.cell? ⟨wr.heap.size, 2, none⟩ = some (.int .i64 v.srt) ∧ w'.cell? ⟨wr.heap.size, 3, none⟩ = some (.int .i64 v.lo) ∧ w'.cell? ⟨wr.heap.size, 4, none⟩ = some (.int .i64 v.hi) ∧ w'.cell? ⟨bi, offi + k, none⟩ = some (.int .i64 x))
            (first | go_keep | exact ⟨(hb3.cell (by exact hbz3)).trans d0, (hb3.cell (by exact hbz3)).trans d1, (hb3.cell (by exact hbz3)).trans d2, (hb3.cell (by exact hbz3)).trans d3, (hb3.cell (by exact hbz3)).trans d4, (hb3.cell (by exact hbz4)).trans cx'⟩)
            (first | (go_at_call 29; refine (has_any v.nm v.env v.srt v.lo v.hi x _ Hmay.out).mono ?_; rintro e w3 ⟨rfl, hb3⟩))
          have hbw3 : Below w.heap.size w w3 := hbx.trans (Below.mono ⟨hb3.os, hb3.tape, hb3.output, hb3.size, hb3.block⟩ hbz2)
          clear hb3 d0 d1 d2 d3 d4 cx'
          cases hh : hasB v.srt v.lo v.hi x
          · have Hfin : Hid (stateOk l xs = false) := hide (by rw [Hso.out, Hst.out, hh]; rfl)
            clear hh
            go_wp2_with fail
            go_ret2
            refine ⟨?_, hbw3⟩
            unfold stateV; rw [Hfin.out]; rfl
          · have Hon : Hid (hasAll l xs = hasAll (l.drop (k + 1)) (xs.drop (k + 1))) := hide (by rw [Hst.out, hh]; rfl)
            clear hh
            go_wp2_with fail
            go_roundw
            case rel => exact ⟨k + 1, by omega, by go_num, Hon, hbw3⟩
            case measure => simp [intOf]; omega
        · have hlt' : ¬ ((k : Int) < (m : Int)) := by omega
          have Hfin : Hid (hasAll l xs = true) := hide (by rw [HA.out, List.drop_of_length_le (by rw [Hn.out]; omega)]; rfl)
          have hsz := hb.size
          go_wp2_with fail
          refine (num_any A m c B l Ai ci xs _ (Nat.le_trans hB hsz) (Hv.out.below (hb.mono hB)) (Hi.out.below (hb.mono hB)) Hall.out Ht.out Hfin.out).mono ?_
          rintro e w3 ⟨rfl, hb3⟩
          have hbw3 := hb.trans (hb3.mono hsz)
          go_wp2_with fail
          go_ret2
          refine ⟨?_, hbw3⟩
          unfold stateV; rw [Hso.out, Hfin.out]; rfl
    · have h2b : ((m : Int) != (n : Int)) = true := by simp; omega
      have Hso : Hid (stateOk l xs = false) := hide (by simp [stateOk, Hn.out, Hx.out, h2])
      clear h1 h2
      go_enter Try.func13, Try.ntmps13
      go_wp2_with fail
      refine (may_any A n c B l _ Hm.out hB Hv.out Hnm.out).mono ?_
      rintro e w1 ⟨rfl, hb1⟩
      go_wp2_with fail
      go_ret2
      refine ⟨?_, hb1⟩
      unfold stateV; rw [Hso.out]; rfl
  · have h1b : (mayL l != 0) = true := by simp [h1]
    have Hso : Hid (stateOk l xs = false) := hide (by simp [stateOk, h1])
    clear h1
    go_enter Try.func13, Try.ntmps13
    go_wp2_with fail
    refine (may_any A n c B l _ Hm.out hB Hv.out Hnm.out).mono ?_
    rintro e w1 ⟨rfl, hb1⟩
    go_wp2_with fail
    go_ret2
    refine ⟨?_, hb1⟩
    unfold stateV; rw [Hso.out]; rfl
end Go.Proofs.Ytjfomoehedhodaa
