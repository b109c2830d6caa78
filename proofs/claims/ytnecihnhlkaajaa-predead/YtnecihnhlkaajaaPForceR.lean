/- The reference's Force. -/
import Derived.Test.YtnecihnhlkaajaaPForceD
namespace Go.Proofs.Ytnecihnhlkaajaa.Gr
open Go.RowKit
open Go.Sort (grow)
set_option linter.unusedSimpArgs false
set_option linter.unusedVariables false

theorem rplayer_any (x : Int) (w : World) : Calls Try.prog 30 #[.int .i64 x] w fun e w' => e = .returned (.bool (plB x)) ∧ w' = w := by
  have Hp : Hid (plB x = (x == 0 || x == 1)) := hide rfl
  cases h0 : x == 0
  · cases h1 : x == 1
    · have Hf : Hid (plB x = false) := hide (by rw [Hp.out, h0, h1]; rfl)
      go_enter Try.func30, Try.ntmps30
      go_wp2_with fail
      go_ret
      exact ⟨ret_bool Hf.out.symm, rfl⟩
    · have Hf : Hid (plB x = true) := hide (by rw [Hp.out, h0, h1]; rfl)
      go_enter Try.func30, Try.ntmps30
      go_wp2_with fail
      go_ret
      exact ⟨ret_bool Hf.out.symm, rfl⟩
  · have Hf : Hid (plB x = true) := hide (by rw [Hp.out, h0]; rfl)
    go_enter Try.func30, Try.ntmps30
    go_wp2_with fail
    go_ret
    exact ⟨ret_bool Hf.out.symm, rfl⟩
def someL (l : List Bool) (r : List Int) : Bool := r.any (fun x => hasB l x)
def outL (l : List Bool) (r : List Int) : Bool := r.any (fun x => !hasB l x)
theorem some_succ {l : List Bool} {r : List Int} {j : Nat} {x : Int} (h : r[j]? = some x) : someL l (r.take (j + 1)) = (someL l (r.take j) || hasB l x) := by
  rw [List.take_add_one, h]; simp [someL]
theorem out_succ {l : List Bool} {r : List Int} {j : Nat} {x : Int} (h : r[j]? = some x) : outL l (r.take (j + 1)) = (outL l (r.take j) || !hasB l x) := by
  rw [List.take_add_one, h]; simp [outL]
theorem q_step {o o2 q h : Bool} (hq : q = !o) (ho : o2 = (o || !h)) : (q && h) = !o2 := by subst hq; subst ho; cases o <;> cases h <;> rfl
set_option maxRecDepth 20000 in
set_option maxHeartbeats 2000000 in
theorem rforce_any (B : Nat) (OA NA : Option Addr) (on oc nn nc : Nat) (g : GT) (who : Int) (A : Option Addr) (n c : Nat) (l : List Bool) (w : World) (hB : B ≤ w.heap.size) (hg : RG w B ⟨OA, on, oc⟩ ⟨NA, nn, nc⟩ g) (hr : RB w B ⟨A, n, c⟩ l) :
    Calls Try.prog 16 #[.agg #[.slice OA on oc, .slice NA nn nc], .int .i64 who, .slice A n c] w (RowPost w (forceL g who l)) := by
  have hbx : Below w.heap.size w (w.alloc (.cells #[.slice OA on oc, .slice NA nn nc] 25)) := (Below.refl _ _).alloc (Nat.le_refl _) _
  have hz0 : w.heap.size + 1 ≤ (w.alloc (.cells #[.slice OA on oc, .slice NA nn nc] 25)).heap.size := by simp
  have Hg := hide (hg.below (hbx.mono hB))
  have Hr := hide (hr.below (hbx.mono hB))
  have Hbox := hide (box_new w OA NA on oc nn nc 25)
  clear hg hr
  go_enter Try.func16, Try.ntmps16
  go_wp2_with fail
  generalize w.alloc (.cells #[.slice OA on oc, .slice NA nn nc] 25) = w1 at *
  refine (rmay_any B OA NA on oc nn nc g w1 (by omega) Hg.out).mono ?_
  rintro e w2 ⟨rfl, hb2⟩
  have hz2 := hb2.size
  have hbw2 := hbx.trans (hb2.mono (by omega))
  have Hg2 := hide (Hg.out.below (hb2.mono (by omega)))
  have Hr2 := hide (Hr.out.below (hb2.mono (by omega)))
  obtain ⟨c0, c1⟩ := Hbox.out.below hb2 (by omega)
  simp only [SL.v] at c0 c1
  clear hb2 Hg Hr Hbox
  by_cases hm : mayG g = 0
  · have hm' : (mayG g != 0) = false := by simp [hm]
    obtain ⟨m1, m2, m3⟩ := may_facts hm
    have hl1' := Hg2.out.own.len
    have hl2' := Hg2.out.nxt.len
    simp only at hl1' hl2'
    obtain rfl : nn = on := by omega
    have hon : nn ≤ 3000 := by omega
    have Hm := hide hm
    have HL : Hid (g.own.length = nn) := hide hl1'
    clear hm m1 m2 m3 hl1' hl2'
    go_wp2_with fail
    refine (rplayer_any who w2).mono ?_
    rintro e w3 ⟨rfl, rfl⟩
    cases hp : plB who
    · have Hf : Hid (forceL g who l = []) := hide (by unfold forceL; rw [if_neg]; rintro ⟨h, _⟩; rw [hp] at h; cases h)
      clear hp
      go_wp2_with fail
      go_ret
      rw [Hf.out]
      exact row_nil hbw2
    · have Hf : Hid (forceL g who l = (List.range nn).map (fAt g who l)) := hide (by unfold forceL; rw [if_pos ⟨hp, Hm.out⟩, HL.out])
      clear hp
      have hmk := make_bools nn (by omega)
      have hrow := mark_zero (f := fAt g who l) (World.rowIs_made w3 (.bool false) nn 4)
      have hb3 : Below w3.heap.size w3 (w3.alloc (.cells (madeCells #[.bool false] nn) 4)) := (Below.refl _ _).alloc (Nat.le_refl _) _
      have hb3w := hbw2.trans (hb3.mono (by omega))
      have c0' := (hb3.cell (p := ⟨w.heap.size, 0, none⟩) (by show w.heap.size < _; omega)).trans c0
      have c1' := (hb3.cell (p := ⟨w.heap.size, 1, none⟩) (by show w.heap.size < _; omega)).trans c1
      have Hrow := hide hrow
      have Hb3 := hide hb3
      have hlw : w.heap.size < w3.heap.size := by omega
      clear hrow
      have C0 := hide c0
      go_wp2_with fail
      clear hmk c0' c1' hb3 c0 c1
      go_loopw [29] (fun i wr => ∃ k : Nat, k ≤ nn ∧ i = .int .i64 k ∧ wr.rowIs w3.heap.size 4 nn (markV (fAt g who l) k) ∧ Below w3.heap.size w3 wr) (fun i _ => nn - (intOf i).toNat)
      case atStart => exact ⟨0, Nat.zero_le _, rfl, Hrow.out, Hb3.out⟩
      case round =>
        obtain ⟨k, hk, rfl, hrw, hb⟩ := hrel
        have hzr := hb.size
        have Hrw := hide hrw
        have Hb := hide hb
        by_cases hlt : k < nn
        · have hlt' : (k : Int) < (nn : Int) := by omega
          have hg3 := Hg2.out.below (hb.mono (by omega))
          obtain ⟨b, off, x, rfl, hbB, hx, hc⟩ := hg3.own.at_ hlt
          obtain ⟨b2, off2, r, A2, n2, k2, rfl, hbB2, hrr, hc2, hri⟩ := hg3.nxt.at_ hlt
          have Hat : Hid (fAt g who l k = if (x == who) = true then someL l r else !outL l r) := hide (by unfold fAt; rw [getD_at hx, getD_at hrr]; rfl)
          have Hrow2 := hide (may_row Hm.out hrr)
          have Hri := hide hri
          have hn2 : n2 ≤ 3000 := by have h1 := Hrow2.out.2.1; have h2 := hri.len; simp only at h2; omega
          have e0 : wr.cell? ⟨w.heap.size, 0, none⟩ = some (.slice (some ⟨b, off, none⟩) nn oc) := (hb.cell (p := ⟨w.heap.size, 0, none⟩) (by show w.heap.size < _; omega)).trans C0.out
          obtain ⟨u0, hu0⟩ : ∃ u, wr.cell? ⟨w3.heap.size, k, none⟩ = some u := ⟨_, hrw.cell hlt⟩
          have hfz := hrw.frozen k
          clear hx hrr hri hg3 hrw hb
          have E0 := hide e0
          have Hc := hide hc
          clear e0 hc
          go_wp2_with fail
          clear hc2
          go_loopw [10, 11, 36] (fun s a jj wq => ∃ (j : Nat) (p q : Bool), j ≤ n2 ∧ jj = .int .i64 j ∧ s = .bool p ∧ a = .bool q ∧ Hid (p = someL l (r.take j)) ∧ Hid (q = !outL l (r.take j)) ∧ wq = wr) (fun _ _ jj _ => n2 - (intOf jj).toNat)
          case atStart => exact ⟨0, false, true, Nat.zero_le _, rfl, rfl, rfl, hide rfl, hide rfl, rfl⟩
          case round =>
            obtain ⟨j, p, q, hj, rfl, rfl, rfl, Hp, Hq, rfl⟩ := hrel
            by_cases hlt2 : j < n2
            · have hlt2' : (j : Int) < (n2 : Int) := by omega
              obtain ⟨b3, off3, y, rfl, hbB3, hy, hc3⟩ := Hri.out.at_ hlt2
              have Hs1 : Hid (someL l (r.take (j + 1)) = (p || hasB l y)) := hide (by rw [some_succ hy, Hp.out])
              have Hs2 : Hid (outL l (r.take (j + 1)) = (outL l (r.take j) || !hasB l y)) := hide (out_succ hy)
              clear hy
              cases p
              · cases q
                · go_wp2_with fail
                  refine (has_any B A n c l y wr (Hr2.out.below (Hb.out.mono (by omega)))).mono ?_
                  rintro e wx ⟨rfl, hwx⟩
                  rw [hwx]
                  clear hwx
                  go_wp2_with fail
                  go_roundw
                  case rel => exact ⟨j + 1, hasB l y, false, by omega, by go_num, rfl, rfl, hide (by rw [Hs1.out]; rfl), hide (q_step (q := false) (h := hasB l y) Hq.out Hs2.out), by trivial⟩
                  case measure => simp [intOf]; omega
                · go_wp2_with fail
                  refine (has_any B A n c l y wr (Hr2.out.below (Hb.out.mono (by omega)))).mono ?_
                  rintro e wx ⟨rfl, hwx⟩
                  rw [hwx]
                  clear hwx
                  go_wp2_with fail
                  refine (has_any B A n c l y wr (Hr2.out.below (Hb.out.mono (by omega)))).mono ?_
                  rintro e wx ⟨rfl, hwx⟩
                  rw [hwx]
                  clear hwx
                  go_wp2_with fail
                  go_roundw
                  case rel => exact ⟨j + 1, hasB l y, hasB l y, by omega, by go_num, rfl, rfl, hide (by rw [Hs1.out]; rfl), hide (q_step (q := true) (h := hasB l y) Hq.out Hs2.out), by trivial⟩
                  case measure => simp [intOf]; omega
              · cases q
                · go_wp2_with fail
                  go_roundw
                  case rel => exact ⟨j + 1, true, false, by omega, by go_num, rfl, rfl, hide (by rw [Hs1.out]; rfl), hide (q_step (q := false) (h := hasB l y) Hq.out Hs2.out), by trivial⟩
                  case measure => simp [intOf]; omega
                · go_wp2_with fail
                  refine (has_any B A n c l y wr (Hr2.out.below (Hb.out.mono (by omega)))).mono ?_
                  rintro e wx ⟨rfl, hwx⟩
                  rw [hwx]
                  clear hwx
                  go_wp2_with fail
                  go_roundw
                  case rel => exact ⟨j + 1, true, hasB l y, by omega, by go_num, rfl, rfl, hide (by rw [Hs1.out]; rfl), hide (q_step (q := true) (h := hasB l y) Hq.out Hs2.out), by trivial⟩
                  case measure => simp [intOf]; omega
            · have hlt2' : ¬ (j : Int) < (n2 : Int) := by omega
              have hrl := Hri.out.len
              simp only at hrl
              have htk : r.take j = r := List.take_of_length_le (by omega)
              rw [htk] at Hp Hq
              have e0 := E0.out
              have hc := Hc.out
              clear htk hrl
              have hkn : (0 : Int) ≤ (k : Int) := by omega
              cases hxw : x == who
              · have hxw2 : (x != who) = true := by simp [bne, hxw]
                have Hst := hide (mark_step Hrw.out (v := q) (by rw [Hat.out, hxw, Hq.out]; rfl))
                have Hb2 := hide (Hb.out.setCell (p := ⟨w3.heap.size, k, none⟩) (Nat.le_refl _) (.bool q))
                go_wp2_with fail
                go_roundw
                case rel => exact ⟨k + 1, by omega, by go_num, Hst.out, Hb2.out⟩
                case measure => simp [intOf]; omega
              · have hxw2 : (x != who) = false := by simp [bne, hxw]
                cases p
                · have Hst := hide (mark_step Hrw.out (v := false) (by rw [Hat.out, hxw, ← Hp.out]; rfl))
                  have Hb2 := hide (Hb.out.setCell (p := ⟨w3.heap.size, k, none⟩) (Nat.le_refl _) (.bool false))
                  go_wp2_with fail
                  go_roundw
                  case rel => exact ⟨k + 1, by omega, by go_num, Hst.out, Hb2.out⟩
                  case measure => simp [intOf]; omega
                · have Hst := hide (mark_step Hrw.out (v := true) (by rw [Hat.out, hxw, ← Hp.out]; rfl))
                  have Hb2 := hide (Hb.out.setCell (p := ⟨w3.heap.size, k, none⟩) (Nat.le_refl _) (.bool true))
                  go_wp2_with fail
                  go_roundw
                  case rel => exact ⟨k + 1, by omega, by go_num, Hst.out, Hb2.out⟩
                  case measure => simp [intOf]; omega
        · have hlt' : ¬ (k : Int) < (nn : Int) := by omega
          obtain rfl : k = nn := by omega
          clear hrw
          go_wp2_with fail
          go_ret
          exact ⟨⟨_, _, _⟩, rfl, by rw [Hf.out]; exact mark_done Hrw.out (by unfold maxLen; omega), hbw2.trans (hb.mono (by omega))⟩
  · have hm' : (mayG g != 0) = true := by simp [hm]
    have Hf : Hid (forceL g who l = []) := hide (by unfold forceL; rw [if_neg (fun h => hm h.2)])
    clear hm
    go_wp2_with fail
    go_ret
    rw [Hf.out]
    exact row_nil hbw2
end Go.Proofs.Ytnecihnhlkaajaa.Gr
