/- The walk of GraphTurned. -/
import Derived.Test.YtdcdpknlloffjaaGForms
import Derived.Test.YtdcdpknlloffjaaGTurnM
namespace Go.Proofs.Ytdcdpknlloffjaa.Gr
open Go.RowKit
open Go.Sort (grow)
set_option linter.unusedSimpArgs false
set_option linter.unusedVariables false

theorem c_bef2 {W X : World} {OA NA : Option Addr} {on oc nn nc : Nat} {g : GT} {ls : List (List Int)} {Y : World} (he : Hid (befL g = ls)) (h : Hid (RG Y Y.heap.size ⟨OA, on, oc⟩ ⟨NA, nn, nc⟩ g)) (hb : Hid (Below Y.heap.size Y X)) (hs : Hid (Below W.heap.size W X)) :
    Calls Try.prog 15 #[.agg #[.slice OA on oc, .slice NA nn nc]] X fun e w' => ∃ A n c, e = .returned (.slice A n c) ∧ Hid (RR w' w'.heap.size ⟨A, n, c⟩ ls) ∧ Out W X w' :=
  (c_bef h hb hs).mono fun e w' ⟨A, n, c, q0, _, q1, q2⟩ => ⟨A, n, c, q0, by rw [← he.out]; exact q1, q2⟩
theorem lt_new {w : World} {o : Obj} {k : Nat} (h : (w.alloc o).drew.heap.size ≤ k) : w.heap.size + 1 ≤ k := by
  have e : (w.alloc o).drew.heap.size = w.heap.size + 1 := size_al _ _
  omega
theorem umod (z : Int) (n : Nat) (hn : 0 < n) (hm : n ≤ 3000) : ∃ q : Nat, q < n ∧ (IntKind.u64.wrap z).tmod (n : Int) = (q : Int) := by
  have h0 : 0 ≤ IntKind.u64.wrap z := by rw [IntKind.wrap_u64]; omega
  have hp : (0 : Int) < (n : Int) := by omega
  have h1 := Int.emod_nonneg (IntKind.u64.wrap z) (show (n : Int) ≠ 0 by omega)
  have h2 := Int.emod_lt_of_pos (IntKind.u64.wrap z) hp
  refine ⟨((IntKind.u64.wrap z).tmod (n : Int)).toNat, ?_, ?_⟩
  · rw [Int.tmod_eq_emod_of_nonneg h0]; omega
  · rw [Int.tmod_eq_emod_of_nonneg h0]; omega
theorem cells_of {w : World} {b : Nat} {x y : Value} {t : TypeId} (h : w.heap[b]? = some (.cells #[x, y] t (0, 0))) : w.cell? ⟨b, 0, none⟩ = some x ∧ w.cell? ⟨b, 1, none⟩ = some y := ⟨by simp [World.cell?, h], by simp [World.cell?, h]⟩
def oneL (n u : Nat) : List Bool := (List.range n).map (oneB u)
theorem oneL_get {n u i : Nat} (hi : i < n) : (oneL n u).getD i false = oneB u i := by simp [oneL, List.getD, hi]
theorem one_row {w : World} {b n u : Nat} (h : w.rowIs b 4 n (fun _ => .bool false)) (hm : n ≤ maxLen) : RB (w.setCell ⟨b, u, none⟩ (.bool true)) (w.setCell ⟨b, u, none⟩ (.bool true)).heap.size ⟨some ⟨b, 0, none⟩, n, n⟩ (oneL n u) :=
  rb_of (h.set u (.bool true)) (by simp [oneL]) hm (fun i x hx => by
    unfold oneL at hx
    rw [List.getElem?_map] at hx
    obtain ⟨j, hj, rfl⟩ := Option.map_eq_some_iff.1 hx
    obtain ⟨hl, e⟩ := List.getElem?_eq_some_iff.1 hj
    have : j = i := by rw [← e]; simp
    subst this
    show (if j = u then Value.bool true else .bool false) = .bool (oneB u j)
    unfold oneB
    by_cases h : j = u
    · simp [h]
    · simp [h])
theorem row4_at {w : World} {k n : Nat} (h : w.heap.size = k) : (w.alloc (.cells (madeCells #[.bool false] n) 4)).rowIs k 4 n (fun _ => .bool false) := by rw [← h]; exact World.rowIs_made w _ n 4
theorem one_far {w : World} {b b2 i c n : Nat} {l : List Bool} {v : Value} (h : RB w w.heap.size ⟨some ⟨b, 0, none⟩, n, c⟩ l) (hb : b ≠ b2) : RB (w.setCell ⟨b2, i, none⟩ v) (w.setCell ⟨b2, i, none⟩ v).heap.size ⟨some ⟨b, 0, none⟩, n, c⟩ l :=
  ⟨h.1, h.2.1, h.2.2.1, fun hn => by
    obtain ⟨b3, off, e, hlt, hc⟩ := h.2.2.2.1 hn
    simp only at e
    injection e with e
    injection e with e1 e2
    subst e1; subst e2
    exact ⟨b, 0, rfl, by simpa [World.setCell] using hlt, fun k x hx => (World.cell?_of_block (w := w) (Below.heap_setCell _ _ _ _ hb)).trans (hc k x hx)⟩, h.2.2.2.2⟩
theorem reachL_len {g : GT} {l : List Bool} (hm : mayG g = 0) : (reachL g l).length = g.own.length := by unfold reachL; rw [if_pos hm]; simp
theorem reach_one {g : GT} (hm : mayG g = 0) (u : Nat) {v : Nat} (hv : v < g.own.length) : (reachL g (oneL g.own.length u))[v]? = some (reachAt g (oneB u) v) := by
  unfold reachL
  rw [if_pos hm, List.getElem?_map, List.getElem?_range hv, Option.map_some]
  congr 1
  exact reach_fr (fun i hi => oneL_get hi) v
set_option maxRecDepth 100000 in
set_option maxHeartbeats 4000000 in
theorem turned_any (B : Nat) (OA NA : Option Addr) (on oc nn nc : Nat) (g : GT) (a1 a2 : Int) (w : World) (hB : B ≤ w.heap.size) (hg : RG w B ⟨OA, on, oc⟩ ⟨NA, nn, nc⟩ g) :
    Calls Try.prog 4 #[.agg #[.slice OA on oc, .slice NA nn nc], .int .i64 a1, .int .i64 a2] w fun e w' => e = .returned (.bool true) ∧ Below w.heap.size w w' := by
  have hbx : Below w.heap.size w (w.alloc (.cells #[.slice OA on oc, .slice NA nn nc] 25)) := (Below.refl _ _).alloc (Nat.le_refl _) _
  have hz0 : w.heap.size + 1 ≤ (w.alloc (.cells #[.slice OA on oc, .slice NA nn nc] 25)).heap.size := by simp
  have Hg := hide ((hg.below (hbx.mono hB)).more (Nat.le_trans hB hbx.size))
  have Hbox := hide (box_new w OA NA on oc nn nc 25)
  have Hbx := hide hbx
  clear hg hbx
  go_enter Try.func4, Try.ntmps4
  go_wp2_with fail
  generalize w.alloc (.cells #[.slice OA on oc, .slice NA nn nc] 25) = W at *
  have h1 : w.heap.size < W.heap.size := by omega
  obtain ⟨c0, c1⟩ := Hbox.out
  simp only [SL.v] at c0 c1
  refine (heavy_any _ OA NA on oc nn nc g W (Nat.le_refl _) Hg.out).mono ?_
  rintro e w2 ⟨rfl, hb2⟩
  have h12 : w.heap.size < w2.heap.size := by have := hb2.size; omega
  have Hb2 := hide hb2
  obtain ⟨c0', c1'⟩ := keep2 hb2 h1 c0 c1
  clear hb2
  cases hh : decide (0 < hvG g)
  · go_wp2_with fail
    refine (rmay_any _ OA NA on oc nn nc g w2 (Nat.le_refl _) (rg_x Hg Hb2)).mono ?_
    rintro e w3 ⟨rfl, hb3⟩
    have Hb3 := hide (Hb2.out.trans (hb3.mono Hb2.out.size))
    obtain ⟨d0, d1⟩ := keep2 Hb3.out h1 c0 c1
    clear hb3 c0' c1' hh
    by_cases hm : mayG g = 0
    · have hm' : (mayG g != 0) = false := by simp [hm]
      obtain ⟨m1, m2, m3⟩ := may_facts hm
      have hl1 := Hg.out.own.len
      have hl2 := Hg.out.nxt.len
      simp only at hl1 hl2
      obtain rfl : nn = on := by omega
      have hon : nn ≤ 3000 := by omega
      have Hm := hide hm
      have HL : Hid (g.own.length = nn) := hide hl1
      clear m1 m2 m3 hl1 hl2 hm
      by_cases hz : nn = 0
      · subst hz
        go_wp2_with fail
        refine (awake_any _).mono ?_
        rintro e w4 ⟨rfl, hb4⟩
        have Hf := hide (Hbx.out.trans ((Hb3.out.trans (hb4.mono Hb3.out.size)).mono (by omega)))
        clear hb4
        go_wp2_with fail
        go_ret
        exact ⟨rfl, Hf.out⟩
      · have hz' : ((nn : Int) == 0) = false := by simp; omega
        have hwN : IntKind.u64.wrap (nn : Int) = (nn : Int) := by rw [IntKind.wrap_u64]; omega
        obtain ⟨u, hu, hue⟩ := umod a1 nn (by omega) hon
        obtain ⟨v, hv, hve⟩ := umod a2 nn (by omega) hon
        have huw : IntKind.i64.wrap (u : Int) = (u : Int) := by rw [IntKind.wrap_i64]; omega
        have hvw : IntKind.i64.wrap (v : Int) = (v : Int) := by rw [IntKind.wrap_i64]; omega
        have hz2 : ¬ (nn : Int) = 0 := by omega
        go_wp2_with fail
        go_quiet (fail)
        obtain ⟨w4, hw4⟩ : ∃ w4, w4 = w3.drewN nq := ⟨_, rfl⟩
        have Hb4 : Hid (Below W.heap.size W w4) := hide (by rw [hw4]; exact ⟨Hb3.out.os, Hb3.out.tape, Hb3.out.output, Hb3.out.size, Hb3.out.block⟩)
        rw [← hw4]
        clear hw4 d0 d1 hue hve huw hvw hwN Hb2 Hb3
        obtain ⟨d0, d1⟩ := keep2 Hb4.out h1 c0 c1
        have hz4 := Hb4.out.size
        have h14 : w.heap.size < w4.heap.size := by omega
        have Hg4 := hide (rg_x Hg Hb4)
        have Hs4 := hide (Below.refl w4.heap.size w4)
        go_upto_region 5 with fail
        go_cut [8] from 43 to 47 (fun s8 wx => ∃ (b8 : Nat) (A : Option Addr) (n c : Nat), s8 = .pointer (some ⟨b8, 0, none⟩) ∧ Hid (wx.heap[b8]? = some (.cells #[.slice OA nn oc, .slice A n c] 25 (0, 0))) ∧ Hid (RR wx wx.heap.size ⟨A, n, c⟩ (befL g)) ∧ Hid (Below w4.heap.size w4 wx))
        case first =>
          go_region_held3 (fun w' => w'.cell? ⟨w.heap.size, 0, none⟩ = some (.slice OA nn oc) ∧ w'.cell? ⟨w.heap.size, 1, none⟩ = some (.slice NA nn nc))
            (first | go_keep | exact keep2 (by repeat (first | exact Hid.out (by assumption) | exact Below.refl _ _ | refine Below.drew ?_ | refine Below.setCell ?_ (by first | exact Nat.le_refl _ | (show _ ≤ _; simp; done) | (show _ ≤ _; omega)) _ | refine Below.alloc ?_ (by first | omega | (simp; done) | (simp; omega)) _)) h14 d0 d1)
            (first | (go_at_call 15; refine (c_bef (W := w4) Hg4 (hide (by repeat (first | exact Below.refl _ _ | refine Below.drew ?_ | refine Below.setCell ?_ (by first | exact Nat.le_refl _ | (show _ ≤ _; simp; done) | (show _ ≤ _; omega)) _ | refine Below.alloc ?_ (by first | omega | (simp; done) | (simp; omega)) _))) (hide (by repeat (first | exact Below.refl _ _ | refine Below.drew ?_ | refine Below.setCell ?_ (by first | exact Nat.le_refl _ | (show _ ≤ _; simp; done) | (show _ ≤ _; omega)) _ | refine Below.alloc ?_ (by first | omega | (simp; done) | (simp; omega)) _)))).mono ?_; rintro e w5 ⟨kA, kn, kc, rfl, hkn, hk, hx1, hx2, hx3⟩; have hx1z := hx1.out.size; (try simp at hx1z); (try (have hzl : w4.heap.size < w5.heap.size := (by omega))); obtain ⟨k1, k2⟩ := bcell hx1.out; have hx2z := hx2.out.size))
          all_goals (go_wp2_with fail)
          all_goals go_meet
          all_goals first
            | exact ⟨_, _, _, _, rfl, hide (new_at rfl), hide ((hk.out.below ((Below.refl _ _).alloc (Nat.le_refl _) _)).more (by simp)), hide (hx2.out.alloc hx2z _)⟩
            | exact ⟨_, _, _, _, rfl, hide (box_set ((hx1.out.block _ (by rw [show (w4.alloc ZeroO).drew.heap.size = w4.heap.size + 1 from size_al _ _]; omega)).trans (show (w4.alloc ZeroO).drew.heap[w4.heap.size]? = some ZeroO from new_at rfl))), hide ((hkn.out.on (by simp [World.setCell]) (fun k hk0 _ => by have hk1 := lt_new hk0; rw [Below.heap_setCell _ _ _ _ (by show k ≠ w4.heap.size; omega), Below.heap_setCell _ _ _ _ (by show k ≠ w4.heap.size; omega)])).rr), hide ((hx2.out.setCell (p := ⟨w4.heap.size, 0, none⟩) (Nat.le_refl _) _).setCell (p := ⟨w4.heap.size, 1, none⟩) (Nat.le_refl _) _)⟩
        case rest =>
          obtain ⟨b8, A, n, c, rfl, HB, HR, HW⟩ := hcut
          have hz5 := HW.out.size
          have hb8 : b8 < wc.heap.size := (Array.getElem?_eq_some_iff.1 HB.out).1
          obtain ⟨e0, e1⟩ := keep2 HW.out h14 d0 d1
          obtain ⟨f0, f1⟩ := cells_of HB.out
          have h15 : w.heap.size < wc.heap.size := by omega
          have hmt := turn_may Hm.out
          have Htw := hide (turn_twice Hm.out)
          have Hg5 := hide (rg_x Hg4 HW)
          have Hn5 := hide Hg5.out.nxt
          have Ht5 : Hid (RG wc wc.heap.size ⟨OA, nn, oc⟩ ⟨A, n, c⟩ (turnG g)) := hide ⟨Hg5.out.own, HR.out⟩
          have Hb5 := hide (Hb4.out.trans (HW.out.mono hz4))
          have Hs5 := hide (Below.refl wc.heap.size wc)
          have Hd5 := hide ((Below.refl wc.heap.size wc).drew)
          obtain ⟨w5, rfl⟩ : ∃ w5, w5 = wc := ⟨_, rfl⟩
          clear d0 d1 HR HB Hg4 HW Hs4
          go_wp2_with fail
          go_upto_region 6 with fail
          go_cut [58] from 48 to 58 (fun s wx => s = .bool false ∧ Hid (Below w5.heap.size w5 wx))
          case first =>
            go_region_held3 (fun w' => w'.cell? ⟨w.heap.size, 0, none⟩ = some (.slice OA nn oc) ∧ w'.cell? ⟨w.heap.size, 1, none⟩ = some (.slice NA nn nc) ∧ w'.cell? ⟨b8, 0, none⟩ = some (.slice OA nn oc) ∧ w'.cell? ⟨b8, 1, none⟩ = some (.slice A n c))
              (first | exact keep4 (by assumption) h15 hb8 e0 e1 f0 f1)
              (first
                | (go_at_call 10; refine (c_may (W := w5) Ht5 (by assumption) (by assumption)).mono ?_; rintro e w1 ⟨rfl, hx1, hx2, hx3⟩)
                | (go_at_call 15; refine (c_bef2 (W := w5) Htw Ht5 (by assumption) (by assumption)).mono ?_; rintro e w1 ⟨kA, kn, kc, rfl, hk, hx1, hx2, hx3⟩)
                | (go_at_call 14; refine (c_rnext (W := w5) (by assumption) (by assumption) Hn5 (by assumption) (by assumption)).mono ?_; rintro e w1 ⟨rfl, hx1, hx2, hx3⟩))
            all_goals (go_wp2_with fail)
            all_goals go_meet
            all_goals exact ⟨rfl, hx2⟩
          case rest =>
            obtain ⟨rfl, HW⟩ := hcut
            obtain ⟨w6, rfl⟩ : ∃ w6, w6 = wc := ⟨_, rfl⟩
            have hz6 := HW.out.size
            have hmk := make_bools nn (by omega)
            go_wp2_with fail
            go_upto_region 8 with fail
            go_cut [9, 10] from 59 to 62 (fun s9 s10 wx => ∃ b9 b10 : Nat, s9 = .slice (some ⟨b9, 0, none⟩) nn nn ∧ s10 = .slice (some ⟨b10, 0, none⟩) nn nn ∧ b9 ≠ b10 ∧ w6.heap.size ≤ b9 ∧ w6.heap.size ≤ b10 ∧ Hid (wx.rowIs b9 4 nn (fun _ => .bool false)) ∧ Hid (wx.rowIs b10 4 nn (fun _ => .bool false)) ∧ Hid (Below w6.heap.size w6 wx))
            case first =>
              go_region
              all_goals (go_wp2_with fail)
              all_goals go_meet
              all_goals first
                | exact ⟨_, _, rfl, rfl, by omega, by omega, by omega, hide ((World.rowIs_made w6 _ nn 4).alloc _), hide (row4_at (size_al _ _)), hide (((Below.refl _ _).alloc (Nat.le_refl _) _).alloc (by simp) _).drew⟩
                | exact ⟨_, _, rfl, rfl, by omega, by omega, by omega, hide (row4_at (size_al _ _)), hide ((World.rowIs_made w6 _ nn 4).alloc _), hide (((Below.refl _ _).alloc (Nat.le_refl _) _).alloc (by simp) _).drew⟩
            case rest =>
              obtain ⟨b9, b10, rfl, rfl, hbn, hb9, hb10, Hr9, Hr10, HW7⟩ := hcut
              obtain ⟨w7, rfl⟩ : ∃ w7, w7 = wc := ⟨_, rfl⟩
              clear hmk
              have hu' : (u : Int) < (nn : Int) := by omega
              have hv' : (v : Int) < (nn : Int) := by omega
              have hu0 : (0 : Int) ≤ (u : Int) := by omega
              have hv0 : (0 : Int) ≤ (v : Int) := by omega
              have q9 := Hr9.out.cell hu
              have q10 := Hr10.out.cell hv
              have z9 := Hr9.out.frozen u
              have z10 := Hr10.out.frozen v
              have hz7 := HW7.out.size
              have Hl9 := hide Hr9.out.lt
              have Hl10 := hide Hr10.out.lt
              have hs8 : ((w7.setCell ⟨b9, u, none⟩ (.bool true)).setCell ⟨b10, v, none⟩ (.bool true)).heap.size = w7.heap.size := by simp [World.setCell]
              have HR9 : Hid (RB ((w7.setCell ⟨b9, u, none⟩ (.bool true)).setCell ⟨b10, v, none⟩ (.bool true)) ((w7.setCell ⟨b9, u, none⟩ (.bool true)).setCell ⟨b10, v, none⟩ (.bool true)).heap.size ⟨some ⟨b9, 0, none⟩, nn, nn⟩ (oneL nn u)) := hide (one_far (one_row Hr9.out (by unfold maxLen; omega)) hbn)
              have HR10 : Hid (RB ((w7.setCell ⟨b9, u, none⟩ (.bool true)).setCell ⟨b10, v, none⟩ (.bool true)) ((w7.setCell ⟨b9, u, none⟩ (.bool true)).setCell ⟨b10, v, none⟩ (.bool true)).heap.size ⟨some ⟨b10, 0, none⟩, nn, nn⟩ (oneL nn v)) := hide (one_row (Hr10.out.setOther (by exact fun h => hbn h.symm) _) (by unfold maxLen; omega))
              have HW8 := hide (((HW.out.trans (HW7.out.mono hz6)).setCell (p := ⟨b9, u, none⟩) (by show w5.heap.size ≤ b9; omega) (.bool true)).setCell (p := ⟨b10, v, none⟩) (by show w5.heap.size ≤ b10; omega) (.bool true))
              clear hs8
              go_wp2_with fail
              generalize (w7.setCell ⟨b9, u, none⟩ (.bool true)).setCell ⟨b10, v, none⟩ (.bool true) = w8 at *
              have hz8 := HW8.out.size
              have hb88 : b8 < w8.heap.size := by omega
              have h18 : w.heap.size < w8.heap.size := by omega
              obtain ⟨e0', e1', f0', f1'⟩ := keep4 HW8 h15 hb8 e0 e1 f0 f1
              have Hg8 := hide (rg_x Hg5 HW8)
              have Ht8 := hide (rg_x Ht5 HW8)
              have Hs8 := hide (Below.refl w8.heap.size w8)
              have Hd8 := hide ((Below.refl w8.heap.size w8).drew)
              have Hb8 := hide (Hb5.out.trans (HW8.out.mono (by omega)))
              clear q9 q10 z9 z10 e0 e1 f0 f1 Hg5 Ht5 HW8 HW HW7 Hr9 Hr10 Hs5 Hd5 Hn5
              go_upto_region 10 with fail
              go_cut [11, 12] from 69 to 74 (fun s11 s12 wx => ∃ (A1 : Option Addr) (n1 c1 : Nat) (A2 : Option Addr) (n2 c2 : Nat), s11 = .slice A1 n1 c1 ∧ s12 = .slice A2 n2 c2 ∧ Hid (RB wx wx.heap.size ⟨A1, n1, c1⟩ (reachL g (oneL nn u))) ∧ Hid (RB wx wx.heap.size ⟨A2, n2, c2⟩ (reachL (turnG g) (oneL nn v))) ∧ Hid (Below w8.heap.size w8 wx))
              case first =>
                go_region_held3 (fun w' => w'.cell? ⟨w.heap.size, 0, none⟩ = some (.slice OA nn oc) ∧ w'.cell? ⟨w.heap.size, 1, none⟩ = some (.slice NA nn nc) ∧ w'.cell? ⟨b8, 0, none⟩ = some (.slice OA nn oc) ∧ w'.cell? ⟨b8, 1, none⟩ = some (.slice A n c))
                  (first | exact keep4 (by assumption) h18 hb88 e0' e1' f0' f1')
                  (first
                    | (go_at_call 18; refine (c_reach (W := w8) (by assumption) (by assumption) (by assumption) (by assumption) (by assumption)).mono ?_; rintro e w1 ⟨kA, kn, kc, rfl, hk, hx1, hx2, hx3⟩))
                all_goals (go_wp2_with fail)
                all_goals go_meet
                all_goals exact ⟨_, _, _, _, _, _, rfl, rfl, hide (rb_x (by assumption) (by assumption)), (by assumption), (by assumption)⟩
              case rest =>
                obtain ⟨A1, n1, k1, A2, n2, k2, rfl, rfl, HX, HY, HW9⟩ := hcut
                obtain ⟨w9, rfl⟩ : ∃ w9, w9 = wc := ⟨_, rfl⟩
                have hz9 := HW9.out.size
                have hl1 := HX.out.len
                have hl2 := HY.out.len
                rw [reachL_len Hm.out, HL.out] at hl1
                rw [reachL_len (turn_may Hm.out), show (turnG g).own.length = nn from HL.out] at hl2
                simp only at hl1 hl2
                subst hl1
                subst hl2
                obtain ⟨bx, ox, ex, hbx, hcx⟩ := HX.out.2.2.2.1 (by show 0 < nn; omega)
                obtain ⟨by_, oy, ey, hby, hcy⟩ := HY.out.2.2.2.1 (by show 0 < nn; omega)
                simp only at ex ey
                subst ex
                subst ey
                have e1 : (reachL g (oneL nn u))[u]? = some true := by
                  have := reach_one Hm.out u (v := u) (by rw [HL.out]; exact hu)
                  rwa [HL.out, reach_own (by rw [HL.out]; exact hu)] at this
                have e2 : (reachL g (oneL nn u))[v]? = some (reachAt g (oneB u) v) := by
                  have := reach_one Hm.out u (v := v) (by rw [HL.out]; exact hv)
                  rwa [HL.out] at this
                have e3 : (reachL (turnG g) (oneL nn v))[u]? = some (reachAt g (oneB u) v) := by
                  have := reach_one (turn_may Hm.out) v (v := u) (by rw [show (turnG g).own.length = nn from HL.out]; exact hu)
                  rwa [show (turnG g).own.length = nn from HL.out, ← reach_turn Hm.out] at this
                have p1 := hcx u _ e1
                have p2 := hcx v _ e2
                have p3 := hcy u _ e3
                generalize reachAt g (oneB u) v = z at *
                have P1 := cell_regrown (show w9.cell? ⟨bx, ox + u, none⟩ = some (.bool true) from p1)
                have P2 := cell_regrown (show w9.cell? ⟨bx, ox + v, none⟩ = some (.bool z) from p2)
                have P3 := cell_regrown (show w9.cell? ⟨by_, oy + u, none⟩ = some (.bool z) from p3)
                have Hend := hide (Hbx.out.trans ((Hb8.out.trans (HW9.out.mono (by omega))).mono (by omega)))
                clear p1 p2 p3 e1 e2 e3 hcx hcy HX HY e0' e1' f0' f1'
                have hn0 : ((nn : Int) == (nn : Int)) = true := by simp
                go_wp2_with fail
                refine wp_region_quiet_below (by kernel_rfl) (by kernel_rfl) ?_
                repeat (go_big_quiet_step ((go_at_call 9; exact Calls.regrown_of (awake_any _))))
                refine wpQuiet_nil ?_
                intro w10 hw10
                obtain ⟨p, hp⟩ := hw10
                have Hb10 : Hid (Below w9.heap.size w9 w10) := hide (by rw [hp]; exact below_regrown w9 p.d p.os)
                clear hp P1 P2 P3
                go_wp2_with fail
                go_ret
                exact ⟨rfl, Hend.out.trans (Hb10.out.mono (by omega))⟩
    · have hm' : (mayG g != 0) = true := by simp [hm]
      clear hm
      go_wp2_with fail
      refine (awake_any _).mono ?_
      rintro e w4 ⟨rfl, hb4⟩
      have Hf := hide (Hbx.out.trans ((Hb3.out.trans (hb4.mono Hb3.out.size)).mono (by omega)))
      clear hb4
      go_wp2_with fail
      go_ret
      exact ⟨rfl, Hf.out⟩
  · go_wp2_with fail
    refine (awake_any _).mono ?_
    rintro e w4 ⟨rfl, hb4⟩
    have Hf := hide (Hbx.out.trans ((Hb2.out.trans (hb4.mono Hb2.out.size)).mono (by omega)))
    clear hb4
    go_wp2_with fail
    go_ret
    exact ⟨rfl, Hf.out⟩
end Go.Proofs.Ytdcdpknlloffjaa.Gr
