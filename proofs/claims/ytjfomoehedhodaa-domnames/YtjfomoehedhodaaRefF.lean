/- The walks of the reference's State and SameInts. -/
import Derived.Test.YtjfomoehedhodaaRefE
import Derived.Test.YtjfomoehedhodaaWith
import Derived.Lib.QuietBelow
namespace Go.Proofs.Ytjfomoehedhodaa
open Go.RowKit Go.WideMaps Go.Maps
set_option linter.unusedSimpArgs false
set_option linter.unusedVariables false

set_option maxRecDepth 100000 in
set_option maxHeartbeats 1000000 in
theorem rstate_any (A : Option Addr) (n c B : Nat) (l : List V) (Ai : Option Addr) (m ci : Nat) (xs : List Int) (w : World) (hm : n ≤ maxLen) (hnc : n ≤ c) (hc : c ≤ maxLen) (hm2 : m ≤ maxLen) (hB : B ≤ w.heap.size) (hv : RV w B A n l) (hi : RI w B Ai m xs) (hnm : ∀ v ∈ l, v.nm.size ≤ maxLen) :
    Calls Try.prog 14 #[.slice A n c, .slice Ai m ci] w fun e w' => e = .returned (.tuple #[.int .i64 (stateV l xs), .bool (stateOk l xs)]) ∧ Below w.heap.size w w' := by
  have Hm := hide hm
  have Hc := hide hc
  unfold maxLen at hm hm2
  have Hn := hide hv.1
  have Hx := hide hi.1
  have Hv := hide hv; clear hv
  have Hi := hide hi; clear hi
  have Hnm := hide hnm; clear hnm
  clear hc
  by_cases h1 : mayL l = 0
  · have h1b : (mayL l != 0) = false := by simp [h1]
    by_cases h2 : m = n
    · subst h2
      have h2b : ((m : Int) != (m : Int)) = false := by simp
      have ht := (mayL_zero h1).2
      have hn6 : m ≤ 6 := by have := totL_len ht; rw [Hn.out] at this; exact this
      have Hall := hide (mayL_all h1)
      have hP : prodV l ≤ 512 := by rw [← totL_prod ht]; exact (totL_bd l).2
      have Hso : Hid (stateOk l xs = hasAll l xs) := hide (by simp [stateOk, h1, Hn.out, Hx.out])
      have H1 := hide h1; have Ht := hide ht; clear h1 ht
      go_enter Try.func14, Try.ntmps14
      go_wp2_with fail
      refine (rmay_any A m c B l _ Hm.out hnc Hc.out hB Hv.out Hnm.out).mono ?_
      rintro e w1 ⟨rfl, hb1⟩
      go_wp2_with fail
      go_loopw [6, 7, 23] (fun a b i wr => ∃ (k : Nat) (st wt : Int), k ≤ m ∧ i = .int .i64 k ∧ a = .int .i64 st ∧ b = .int .i64 wt ∧ 0 ≤ st ∧ st < wt ∧ 1 ≤ wt ∧ Hid (st + wt * numL (l.drop k) (xs.drop k) = numL l xs) ∧ Hid (wt * prodV (l.drop k) = prodV l) ∧ Hid (hasAll l xs = hasAll (l.drop k) (xs.drop k)) ∧ Below w.heap.size w wr) (fun _ _ i _ => m - (intOf i).toNat)
      case atStart => exact ⟨0, 0, 1, Nat.zero_le _, rfl, rfl, rfl, by omega, by omega, by omega, hide (by simp), hide (by simp), hide rfl, hb1⟩
      case round =>
        obtain ⟨k, st, wt, hk, rfl, rfl, rfl, hs0, hs1, hw1, HN, HP, HA, hb⟩ := hrel
        have hw2 := wt_bd k Hall.out hw1 HP.out hP
        by_cases hlt : k < m
        · have hlt' : ((k : Int) < (m : Int)) := by omega
          obtain ⟨b, off, v, rfl, hbB, hlk, c0, c1, c2, c3, c4⟩ := (Hv.out.below (hb.mono hB)).at_ hlt
          obtain ⟨bi, offi, x, rfl, hbi, hlx, cx⟩ := (Hi.out.below (hb.mono hB)).at_ hlt
          have hmay := Hall.out v (List.mem_of_getElem? hlk)
          have sz1 := size_pos hmay
          have sz2 := (size_bd v.srt v.lo v.hi).2
          obtain ⟨lo1, lo2⟩ := may_lo hmay
          have Hst := hide (num_step hlk hlx HN.out HP.out)
          have Hst2 : Hid (hasAll l xs = (hasB v.srt v.lo v.hi x && hasAll (l.drop (k + 1)) (xs.drop (k + 1)))) := hide (by rw [HA.out, drop_at hlk, drop_at hlx, hasAll])
          clear hlk hlx hmay
          have hsz := hb.size
          have cx' : (wr.alloc (.cells #[.string v.nm, .bool v.env, .int .i64 v.srt, .int .i64 v.lo, .int .i64 v.hi] 36)).cell? ⟨bi, offi + k, none⟩ = some (.int .i64 x) := (World.cell?_alloc_lt wr _ _ (by show bi < _; omega)).trans cx
          clear cx
          go_wp2_with fail
          clear c0 c1 c2 c3 c4 cx'
          have hbox := box_new wr v 36
          have hbx : Below w.heap.size w (wr.alloc (.cells #[.string v.nm, .bool v.env, .int .i64 v.srt, .int .i64 v.lo, .int .i64 v.hi] 36)) := hb.alloc hsz _
          have hbz : (wr.alloc (.cells #[.string v.nm, .bool v.env, .int .i64 v.srt, .int .i64 v.lo, .int .i64 v.hi] 36)).heap.size = wr.heap.size + 1 := by simp
          generalize wr.alloc (.cells #[.string v.nm, .bool v.env, .int .i64 v.srt, .int .i64 v.lo, .int .i64 v.hi] 36) = w2 at *
          have hbz2 : w.heap.size ≤ w2.heap.size := by omega
          have hbz3 : wr.heap.size < w2.heap.size := by omega
          generalize wr.heap.size = bx at *
          clear hbz
          have Hbx := hide hbx
          have Hbox := hide hbox
          clear hbx hb hbox
          obtain ⟨d0, d1, d2, d3, d4⟩ := Hbox.out
          have C0 := cell_regrown d0
          have C1 := cell_regrown d1
          have C2 := cell_regrown d2
          have C3 := cell_regrown d3
          have C4 := cell_regrown d4
          clear d0 d1 d2 d3 d4
          by_cases hx : x < v.lo
          · have hxb : decide (x < v.lo) = true := by simp [hx]
            have Hfin : Hid (stateOk l xs = false) := hide (by
              have : hasB v.srt v.lo v.hi x = false := by simp [hasB]; omega
              rw [Hso.out, Hst2.out, this]; rfl)
            refine wp_region_quiet_below (by kernel_rfl) (by kernel_rfl) ?_
            repeat (go_big_quiet_step (fail))
            refine wpQuiet_nil ?_
            intro w14 hw14
            obtain ⟨p, rfl⟩ := hw14
            have hfin := Hbx.out.trans ((below_regrown w2 p.d p.os).mono (by omega))
            go_wp2_with fail
            go_ret2
            refine ⟨?_, hfin⟩
            unfold stateV; rw [Hfin.out]; rfl
          · have hxb : decide (x < v.lo) = false := by simp; omega
            have hwr : IntKind.i64.wrap (v.lo + sizeOfV v.srt v.lo v.hi) = v.lo + sizeOfV v.srt v.lo v.hi := IntWalk.i64_in _ (by omega)
            by_cases hy : v.lo + sizeOfV v.srt v.lo v.hi ≤ x
            · have hyb : decide (v.lo + sizeOfV v.srt v.lo v.hi ≤ x) = true := by simp [hy]
              have Hfin : Hid (stateOk l xs = false) := hide (by
                have : hasB v.srt v.lo v.hi x = false := by simp [hasB]; omega
                rw [Hso.out, Hst2.out, this]; rfl)
              refine wp_region_quiet_below (by kernel_rfl) (by kernel_rfl) ?_
              repeat (go_big_quiet_step ((go_at_call 23; exact Calls.regrown_of (rsize_any _ _ _ _ _ _))))
              refine wpQuiet_nil ?_
              intro w14 hw14
              obtain ⟨p, rfl⟩ := hw14
              have hfin := Hbx.out.trans ((below_regrown w2 p.d p.os).mono (by omega))
              clear hwr
              go_wp2_with fail
              go_ret2
              refine ⟨?_, hfin⟩
              unfold stateV; rw [Hfin.out]; rfl
            · have hyb : decide (v.lo + sizeOfV v.srt v.lo v.hi ≤ x) = false := by simp; omega
              have HA2 : Hid (hasAll l xs = hasAll (l.drop (k + 1)) (xs.drop (k + 1))) := hide (by
                have : hasB v.srt v.lo v.hi x = true := by simp [hasB]; omega
                rw [Hst2.out, this]; rfl)
              refine wp_region_quiet_below (by kernel_rfl) (by kernel_rfl) ?_
              repeat (go_big_quiet_step ((go_at_call 23; exact Calls.regrown_of (rsize_any _ _ _ _ _ _))))
              refine wpQuiet_nil ?_
              intro w14 hw14
              obtain ⟨p, hp⟩ := hw14
              have hb14 : Below w2.heap.size w2 w14 := by rw [hp]; exact below_regrown w2 p.d p.os
              have hbw14 := Hbx.out.trans (hb14.mono (by omega))
              obtain ⟨d0, d1, d2, d3, d4⟩ := Hbox.out.below hb14 hbz3
              clear hp hwr C0 C1 C2 C3 C4
              obtain ⟨p1, p2, p3⟩ := num_bd hs0 hs1 hw1 hw2 (show v.lo ≤ x by omega) (show x < v.lo + sizeOfV v.srt v.lo v.hi by omega) sz2
              generalize hz : sizeOfV v.srt v.lo v.hi = z at *
              have Hz : Hid (v.size = z) := hide hz
              clear hz
              have q1 : 1 ≤ wt * z := by have := Int.mul_le_mul hw1 sz1 (by omega) (by omega); omega
              have q2 : wt * z ≤ 512 * 2001 := Int.mul_le_mul hw2 sz2 (by omega) (by omega)
              have Hst3 : Hid ((st + (x - v.lo) * wt) + (wt * z) * numL (l.drop (k + 1)) (xs.drop (k + 1)) = numL l xs ∧ (wt * z) * prodV (l.drop (k + 1)) = prodV l) := hide (by have := Hst.out; rw [Hz.out] at this; exact this)
              clear Hst HN HP
              have p0 : 0 ≤ st + (x - v.lo) * wt := by omega
              go_wp2_with fail
              refine (rsize_any v.nm v.env v.srt v.lo v.hi _).mono ?_
              rintro e w15 ⟨rfl, hb15⟩
              have hbw15 := hbw14.trans (hb15.mono hbw14.size)
              rw [show sizeOfV v.srt v.lo v.hi = z from Hz.out]
              clear d0 d1 d2 d3 d4 hb15
              go_wp2_with fail
              go_roundw
              case rel => exact ⟨k + 1, st + (x - v.lo) * wt, wt * z, by omega, by go_num, rfl, rfl, by omega, by omega, by omega, hide Hst3.out.1, hide Hst3.out.2, HA2, hbw15⟩
              case measure => simp [intOf]; omega
        · have hlt' : ¬ ((k : Int) < (m : Int)) := by omega
          have Hfin : Hid (hasAll l xs = true) := hide (by rw [HA.out, List.drop_of_length_le (by rw [Hn.out]; omega)]; rfl)
          have Hend := hide (num_end (by rw [Hn.out]; omega) HN.out)
          clear HN HP
          go_wp2_with fail
          go_ret2
          refine ⟨?_, hb⟩
          unfold stateV; rw [Hso.out, Hfin.out, ← Hend.out]; rfl
    · have h2b : ((m : Int) != (n : Int)) = true := by simp; omega
      have Hso : Hid (stateOk l xs = false) := hide (by simp [stateOk, Hn.out, Hx.out, h2])
      clear h1 h2
      go_enter Try.func14, Try.ntmps14
      go_wp2_with fail
      refine (rmay_any A n c B l _ Hm.out hnc Hc.out hB Hv.out Hnm.out).mono ?_
      rintro e w1 ⟨rfl, hb1⟩
      go_wp2_with fail
      go_ret2
      refine ⟨?_, hb1⟩
      unfold stateV; rw [Hso.out]; rfl
  · have h1b : (mayL l != 0) = true := by simp [h1]
    have Hso : Hid (stateOk l xs = false) := hide (by simp [stateOk, h1])
    clear h1
    go_enter Try.func14, Try.ntmps14
    go_wp2_with fail
    refine (rmay_any A n c B l _ Hm.out hnc Hc.out hB Hv.out Hnm.out).mono ?_
    rintro e w1 ⟨rfl, hb1⟩
    go_wp2_with fail
    go_ret2
    refine ⟨?_, hb1⟩
    unfold stateV; rw [Hso.out]; rfl

set_option maxHeartbeats 400000 in
theorem same_any (A D : Option Addr) (n c d B : Nat) (xs : List Int) (w : World) (hm : n ≤ maxLen) (hB : B ≤ w.heap.size) (ha : RI w B A n xs) (hd : RI w B D n xs) : Calls Try.prog 21 #[.slice A n c, .slice D n d] w fun e w' => e = .returned (.bool true) ∧ Below w.heap.size w w' := by
  unfold maxLen at hm
  have Ha := hide ha; have Hd := hide hd
  clear ha hd
  have hnn : ((n : Int) != (n : Int)) = false := by simp
  go_enter Try.func21, Try.ntmps21
  go_wp2_with fail
  go_loopw [13] (fun i wr => ∃ (k : Nat), k ≤ n ∧ i = .int .i64 k ∧ Below w.heap.size w wr) (fun i _ => n - (intOf i).toNat)
  case atStart => exact ⟨0, Nat.zero_le _, rfl, Below.refl _ _⟩
  case round =>
    obtain ⟨k, hk, rfl, hb⟩ := hrel
    by_cases hlt : k < n
    · have hlt' : ((k : Int) < (n : Int)) := by omega
      obtain ⟨b1, o1, x, rfl, _, hx, c1⟩ := (Ha.out.below (hb.mono hB)).at_ hlt
      obtain ⟨b2, o2, y, rfl, _, hy, c2⟩ := (Hd.out.below (hb.mono hB)).at_ hlt
      obtain rfl : x = y := by rw [hx] at hy; injection hy
      clear hx hy
      go_wp2_with fail
      go_quiet (fail)
      go_wp2_with fail
      go_roundw
      case rel => exact ⟨k + 1, by omega, by go_num, below_drewN hb _⟩
      case measure => simp [intOf]; omega
    · have hlt' : ¬ ((k : Int) < (n : Int)) := by omega
      go_wp2_with fail
      go_ret
      exact ⟨rfl, hb⟩
end Go.Proofs.Ytjfomoehedhodaa
