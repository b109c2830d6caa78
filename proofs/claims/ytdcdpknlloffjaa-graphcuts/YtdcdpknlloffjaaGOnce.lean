/- The walk of GraphOnce. -/
import Derived.Test.YtdcdpknlloffjaaGTurned
import Derived.Test.YtdcdpknlloffjaaGOnceM
namespace Go.Proofs.Ytdcdpknlloffjaa.Gr
open Go.RowKit
open Go.Sort (grow)
set_option linter.unusedSimpArgs false
set_option linter.unusedVariables false

theorem c_reach2 {W X : World} {OA NA A : Option Addr} {on oc nn nc n c : Nat} {g : GT} {l l2 : List Bool} {Y Z : World} (he : Hid (reachL g l = l2)) (h : Hid (RG Y Y.heap.size ⟨OA, on, oc⟩ ⟨NA, nn, nc⟩ g)) (hb : Hid (Below Y.heap.size Y X)) (h2 : Hid (RB Z Z.heap.size ⟨A, n, c⟩ l)) (hb2 : Hid (Below Z.heap.size Z X)) (hs : Hid (Below W.heap.size W X)) :
    Calls Try.prog 18 #[.agg #[.slice OA on oc, .slice NA nn nc], .slice A n c] X fun e w' => ∃ A n c, e = .returned (.slice A n c) ∧ Hid (RB w' w'.heap.size ⟨A, n, c⟩ l2) ∧ Out W X w' :=
  (c_reach h hb h2 hb2 hs).mono fun e w' ⟨A, n, c, q0, q1, q2⟩ => ⟨A, n, c, q0, by rw [← he.out]; exact q1, q2⟩

set_option maxRecDepth 100000 in
set_option maxHeartbeats 4000000 in
theorem once_any (B : Nat) (OA NA : Option Addr) (on oc nn nc : Nat) (g : GT) (A3 : Option Addr) (n3 c3 : Nat) (l : List Bool) (A4 : Option Addr) (n4 c4 : Nat) (l2 : List Bool) (w : World) (hB : B ≤ w.heap.size) (hg : RG w B ⟨OA, on, oc⟩ ⟨NA, nn, nc⟩ g) (hr : RB w B ⟨A3, n3, c3⟩ l) (ht : RB w B ⟨A4, n4, c4⟩ l2) :
    Calls Try.prog 7 #[.agg #[.slice OA on oc, .slice NA nn nc], .slice A3 n3 c3, .slice A4 n4 c4] w fun e w' => e = .returned (.bool true) ∧ Below w.heap.size w w' := by
  have hbx : Below w.heap.size w (w.alloc (.cells #[.slice OA on oc, .slice NA nn nc] 25)) := (Below.refl _ _).alloc (Nat.le_refl _) _
  have hz0 : w.heap.size + 1 ≤ (w.alloc (.cells #[.slice OA on oc, .slice NA nn nc] 25)).heap.size := by simp
  have Hg := hide ((hg.below (hbx.mono hB)).more (Nat.le_trans hB hbx.size))
  have hn3 : n3 ≤ 2 ^ 63 - 1 := Nat.le_trans hr.2.1 hr.2.2.1
  have hn4 : n4 ≤ 2 ^ 63 - 1 := Nat.le_trans ht.2.1 ht.2.2.1
  have Hr := hide ((RB.below hr (hbx.mono hB)).more (Nat.le_trans hB hbx.size))
  have Ht := hide ((RB.below ht (hbx.mono hB)).more (Nat.le_trans hB hbx.size))
  have Hbox := hide (box_new w OA NA on oc nn nc 25)
  have Hbx := hide hbx
  clear hg hr ht hbx
  go_enter Try.func7, Try.ntmps7
  go_wp2_with fail
  generalize w.alloc (.cells #[.slice OA on oc, .slice NA nn nc] 25) = W at *
  have h1 : w.heap.size < W.heap.size := by omega
  obtain ⟨c0, c1⟩ := Hbox.out
  simp only [SL.v] at c0 c1
  refine (heavy_any _ OA NA on oc nn nc g W (Nat.le_refl _) Hg.out).mono ?_
  rintro e w2 ⟨rfl, hb2⟩
  have h12 : w.heap.size < w2.heap.size := by have := hb2.size; omega
  have Hb2 := hide hb2
  obtain ⟨c0', c1'⟩ := keep2 hb2 h1 c0 c1
  clear hb2
  cases hh : decide (0 < hvG g)
  · go_wp2_with fail
    refine (rmay_any _ OA NA on oc nn nc g w2 (Nat.le_refl _) (rg_x Hg Hb2)).mono ?_
    rintro e w3 ⟨rfl, hb3⟩
    have Hb3 := hide (Hb2.out.trans (hb3.mono Hb2.out.size))
    obtain ⟨d0, d1⟩ := keep2 Hb3.out h1 c0 c1
    clear hb3 c0' c1' hh
    by_cases hm : mayG g = 0
    · have hm' : (mayG g != 0) = false := by simp [hm]
      obtain ⟨m1, m2, m3⟩ := may_facts hm
      have hl1 := Hg.out.own.len
      have hl2 := Hg.out.nxt.len
      simp only at hl1 hl2
      obtain rfl : nn = on := by omega
      have hon : nn ≤ 3000 := by omega
      have Hm := hide hm
      have HL : Hid (g.own.length = nn) := hide hl1
      clear m1 m2 m3 hl1 hl2 hm
      by_cases hqn3 : 300 < n3
      · have hqn3' : (300 : Int) < (n3 : Int) := by omega
        go_wp2_with fail
        refine (awake_any _).mono ?_
        rintro e w4 ⟨rfl, hb4⟩
        have Hf := hide (Hbx.out.trans ((Hb3.out.trans (hb4.mono Hb3.out.size)).mono (by omega)))
        clear hb4
        go_wp2_with fail
        go_ret
        exact ⟨rfl, Hf.out⟩
      · have hqn3' : ¬ (300 : Int) < (n3 : Int) := by omega
        by_cases hqn4 : 300 < n4
        · have hqn4' : (300 : Int) < (n4 : Int) := by omega
          go_wp2_with fail
          refine (awake_any _).mono ?_
          rintro e w4 ⟨rfl, hb4⟩
          have Hf := hide (Hbx.out.trans ((Hb3.out.trans (hb4.mono Hb3.out.size)).mono (by omega)))
          clear hb4
          go_wp2_with fail
          go_ret
          exact ⟨rfl, Hf.out⟩
        · have hqn4' : ¬ (300 : Int) < (n4 : Int) := by omega
          go_wp2_with fail
          refine (c_reach (W := W) Hg Hb3 Hr Hb3 Hb3).mono ?_
          rintro e w4 ⟨rA, rn, rc, rfl, hk, hx1, hx2, hx3⟩
          obtain ⟨f0, f1⟩ := keep2 hx2.out h1 c0 c1
          have HR := hide (hk.out)
          clear hk hx1 hx3
          go_wp2_with fail
          refine (c_only (W := W) Hg hx2 Ht hx2 hx2).mono ?_
          rintro e w5 ⟨kA, kn, kc, kA2, kn2, kc2, rfl, hkn, hk, hx1, hx5, hx3⟩
          have hz5 := hx5.out.size
          have hz51 := hx1.out.size
          obtain ⟨e0, e1⟩ := keep2 hx5.out h1 c0 c1
          have hbx6 : Below w5.heap.size w5 (w5.alloc (.cells #[.slice kA kn kc, .slice kA2 kn2 kc2] 25)) := (Below.refl _ _).alloc (Nat.le_refl _) _
          have Hb6 := hide (hx5.out.trans (hbx6.mono hz5))
          obtain ⟨g0, g1⟩ := cells_of (w := w5.alloc (.cells #[.slice kA kn kc, .slice kA2 kn2 kc2] 25)) (b := w5.heap.size) (new_at rfl)
          have Ha6 := hide ((hk.out.below hbx6).more hbx6.size)
          have Hr6 := hide (rb_x HR (hide (hx1.out.trans (hbx6.mono hz51))))
          have G0 := hide g0
          have G1 := hide g1
          have hz6 : w5.heap.size < (w5.alloc (.cells #[.slice kA kn kc, .slice kA2 kn2 kc2] 25)).heap.size := by simp
          clear hk hkn hx1 hx3 hx5 HR d0 d1 f0 f1 hbx6 g0 g1 Hb3
          go_wp2_with fail
          have HB5 : Hid (w5.heap.size = w5.heap.size) := hide rfl
          obtain ⟨b5, hb5⟩ : ∃ b5, b5 = w5.heap.size := ⟨_, rfl⟩
          rw [← hb5] at G0 G1 hz6 ⊢
          have hzb : W.heap.size ≤ b5 := by omega
          clear hb5 HB5 hz51
          generalize w5.alloc (.cells #[.slice kA kn kc, .slice kA2 kn2 kc2] 25) = w6 at *
          have Hg6 := hide (rg_x Hg Hb6)
          have hz7 := Hb6.out.size
          have h16 : w.heap.size < w6.heap.size := by omega
          obtain ⟨q0, q1⟩ := keep2 Hb6.out h1 c0 c1
          have q2 := G0.out
          have q3 := G1.out
          have Hr0 := hide (rb_x Hr Hb6)
          have Ht0 := hide (rb_x Ht Hb6)
          have hs6 := hide (Below.refl w6.heap.size w6)
          have hd6 := hide ((Below.refl w6.heap.size w6).drew)
          have Hcut := hide (reach_cut (l := l) Hm.out)
          have hself : ∀ g, sameG g g = true := same_self
          have htw : thinG (pOnly l2) (thinG (pOnly l2) g) = thinG (pOnly l2) g := thin_twice Hm.out (fun _ _ h => h)
          clear Hg Hr Ht c0 c1 e0 e1 hz5
          go_region_held3 (fun w' => w'.cell? ⟨w.heap.size, 0, none⟩ = some (.slice OA nn oc) ∧ w'.cell? ⟨w.heap.size, 1, none⟩ = some (.slice NA nn nc) ∧ w'.cell? ⟨b5, 0, none⟩ = some (.slice kA kn kc) ∧ w'.cell? ⟨b5, 1, none⟩ = some (.slice kA2 kn2 kc2))
            (first | exact keep4 (by assumption) h16 hz6 q0 q1 q2 q3)
            (first
              | (go_at_call 22; refine (c_only (W := w6) (by assumption) (by assumption) (by assumption) (by assumption) (by assumption)).mono ?_; rintro e w1 ⟨jA, jn, jc, jA2, jn2, jc2, rfl, _, hk, hx1, hx2, hx3⟩)
              | (go_at_call 18; refine (c_reach2 (W := w6) Hcut (by assumption) (by assumption) (by assumption) (by assumption) (by assumption)).mono ?_; rintro e w1 ⟨jA, jn, jc, rfl, hk, hx1, hx2, hx3⟩)
              | (go_at_call 17; refine (c_rrow (W := w6) (by assumption) (by assumption) (by assumption) (by assumption) (by assumption)).mono ?_; rintro e w1 ⟨rfl, hx1, hx2, hx3⟩)
              | (go_at_call 12; refine (c_dsame (W := w6) (by assumption) (by assumption) (by assumption) (by assumption) (by assumption)).mono ?_; rintro e w1 ⟨rfl, hx1, hx2, hx3⟩)
              | (go_at_call 9; refine (c_awake (W := w6) (by assumption)).mono ?_; rintro e w1 ⟨rfl, hx1, hx2, hx3⟩))
          go_wp2_with fail
          go_ret
          exact ⟨rfl, Hbx.out.trans ((Hb6.out.trans (hx2.out.mono (by omega))).mono (by omega))⟩
    · have hm' : (mayG g != 0) = true := by simp [hm]
      clear hm
      go_wp2_with fail
      refine (awake_any _).mono ?_
      rintro e w4 ⟨rfl, hb4⟩
      have Hf := hide (Hbx.out.trans ((Hb3.out.trans (hb4.mono Hb3.out.size)).mono (by omega)))
      clear hb4
      go_wp2_with fail
      go_ret
      exact ⟨rfl, Hf.out⟩
  · go_wp2_with fail
    refine (awake_any _).mono ?_
    rintro e w4 ⟨rfl, hb4⟩
    have Hf := hide (Hbx.out.trans ((Hb2.out.trans (hb4.mono Hb2.out.size)).mono (by omega)))
    clear hb4
    go_wp2_with fail
    go_ret
    exact ⟨rfl, Hf.out⟩
end Go.Proofs.Ytdcdpknlloffjaa.Gr
