/- The walk of GraphCuts. -/
import Derived.Test.YtdcdpknlloffjaaGTurned
import Derived.Test.YtdcdpknlloffjaaGReaches
import Derived.Test.YtdcdpknlloffjaaGCutsD
namespace Go.Proofs.Ytdcdpknlloffjaa.Gr
open Go.RowKit
open Go.Sort (grow)
set_option linter.unusedSimpArgs false
set_option linter.unusedVariables false

theorem two_size {w : World} {b : Nat} {a0 a1 : Value} : ((w.setCell ⟨b, 0, none⟩ a0).setCell ⟨b, 1, none⟩ a1).heap.size = w.heap.size := by simp [World.setCell]
theorem two_off {w : World} {b c : Nat} {a0 a1 : Value} {v : Option Obj} (h : b ≠ c) (x : w.heap[b]? = v) : ((w.setCell ⟨c, 0, none⟩ a0).setCell ⟨c, 1, none⟩ a1).heap[b]? = v := by
  rw [Below.heap_setCell _ _ _ _ h, Below.heap_setCell _ _ _ _ h]; exact x
structure Two (b c : Nat) (w w' : World) : Prop where
  size : w.heap.size ≤ w'.heap.size
  same : ∀ k, k < w.heap.size → k ≠ b → k ≠ c → w'.heap[k]? = w.heap[k]?
theorem Two.refl (b c : Nat) (w : World) : Two b c w w := ⟨Nat.le_refl _, fun _ _ _ _ => rfl⟩
theorem Two.alloc {b c : Nat} {w w' : World} (h : Two b c w w') (o : Obj) : Two b c w (w'.alloc o) := ⟨by rw [size_al]; have := h.size; omega, fun k h1 h2 h3 => (Below.heap_alloc _ _ _ (Nat.lt_of_lt_of_le h1 h.size)).trans (h.same k h1 h2 h3)⟩
theorem Two.setb {b c : Nat} {w w' : World} (h : Two b c w w') (i : Nat) (v : Value) : Two b c w (w'.setCell ⟨b, i, none⟩ v) := ⟨by simp [World.setCell]; exact h.size, fun k h1 h2 h3 => (Below.heap_setCell _ _ _ _ h2).trans (h.same k h1 h2 h3)⟩
theorem Two.setc {b c : Nat} {w w' : World} (h : Two b c w w') (i : Nat) (v : Value) : Two b c w (w'.setCell ⟨c, i, none⟩ v) := ⟨by simp [World.setCell]; exact h.size, fun k h1 h2 h3 => (Below.heap_setCell _ _ _ _ h3).trans (h.same k h1 h2 h3)⟩
theorem new_d {w : World} {o : Obj} {k : Nat} (h : w.heap.size = k) : (w.alloc o).drew.heap[k]? = some o := new_at h
theorem old_d {w : World} {o o2 : Obj} : ((w.alloc o).alloc o2).drew.heap[w.heap.size]? = some o := (Below.heap_alloc _ _ _ (by rw [size_al]; omega)).trans (new_at rfl)
theorem meetG {X1 w5 X2 w6 wF : World} {b c : Nat} {O N O2 N2 : SL} {ga gb : GT} (hkn : Hid (NewG X1.heap.size w5 O N ga)) (hx1 : Hid (Below X1.heap.size X1 w5)) (hjn : Hid (NewG X2.heap.size w6 O2 N2 gb)) (hy1 : Hid (Below X2.heap.size X2 w6)) (h25 : Below w5.heap.size w5 X2) (ht : Two b c w6 wF)
    (hb : b < X1.heap.size ∨ (w5.heap.size ≤ b ∧ b < X2.heap.size) ∨ w6.heap.size ≤ b) (hc : c < X1.heap.size ∨ (w5.heap.size ≤ c ∧ c < X2.heap.size) ∨ w6.heap.size ≤ c) : RG wF wF.heap.size O N ga ∧ RG wF wF.heap.size O2 N2 gb := by
  have z1 := hx1.out.size
  have z2 := h25.size
  have z3 := hy1.out.size
  have z4 := ht.size
  exact ⟨hkn.out wF (by omega) (fun k h1 h2 => (ht.same k (by omega) (by omega) (by omega)).trans ((hy1.out.block k (by omega)).trans (h25.block k h2))), hjn.out wF z4 (fun k h1 h2 => ht.same k h2 (by omega) (by omega))⟩
theorem meetAll {w3 X1 w5 X2 w6 wF : World} {s9 s10 : Value} {b c : Nat} {kA kA2 jA jA2 : Option Addr} {kn kc kn2 kc2 jn jc jn2 jc2 : Nat} {ga gb : GT} (h9 : s9 = .pointer (some ⟨b, 0, none⟩)) (h10 : s10 = .pointer (some ⟨c, 0, none⟩))
    (hkn : Hid (NewG X1.heap.size w5 ⟨kA, kn, kc⟩ ⟨kA2, kn2, kc2⟩ ga)) (hx1 : Hid (Below X1.heap.size X1 w5)) (hjn : Hid (NewG X2.heap.size w6 ⟨jA, jn, jc⟩ ⟨jA2, jn2, jc2⟩ gb)) (hy1 : Hid (Below X2.heap.size X2 w6)) (h25 : Below w5.heap.size w5 X2) (ht : Two b c w6 wF)
    (hb : b < X1.heap.size ∨ (w5.heap.size ≤ b ∧ b < X2.heap.size) ∨ w6.heap.size ≤ b) (hc : c < X1.heap.size ∨ (w5.heap.size ≤ c ∧ c < X2.heap.size) ∨ w6.heap.size ≤ c)
    (H9 : Hid (wF.heap[b]? = some (.cells #[.slice kA kn kc, .slice kA2 kn2 kc2] 25 (0, 0)))) (H10 : Hid (wF.heap[c]? = some (.cells #[.slice jA jn jc, .slice jA2 jn2 jc2] 25 (0, 0)))) (hW : Hid (Below w3.heap.size w3 wF)) :
    ∃ (b9 b10 : Nat) (O1 : Option Addr) (n1 k1 : Nat) (N1 : Option Addr) (m1 j1 : Nat) (O2 : Option Addr) (n2 k2 : Nat) (N2 : Option Addr) (m2 j2 : Nat), s9 = .pointer (some ⟨b9, 0, none⟩) ∧ s10 = .pointer (some ⟨b10, 0, none⟩) ∧
  Hid (wF.heap[b9]? = some (.cells #[.slice O1 n1 k1, .slice N1 m1 j1] 25 (0, 0))) ∧ Hid (wF.heap[b10]? = some (.cells #[.slice O2 n2 k2, .slice N2 m2 j2] 25 (0, 0))) ∧ Hid (RG wF wF.heap.size ⟨O1, n1, k1⟩ ⟨N1, m1, j1⟩ ga) ∧ Hid (RG wF wF.heap.size ⟨O2, n2, k2⟩ ⟨N2, m2, j2⟩ gb) ∧ Hid (Below w3.heap.size w3 wF) :=
  ⟨b, c, _, _, _, _, _, _, _, _, _, _, _, _, h9, h10, H9, H10, hide (meetG hkn hx1 hjn hy1 h25 ht hb hc).1, hide (meetG hkn hx1 hjn hy1 h25 ht hb hc).2, hW⟩

theorem c_only2 {W X : World} {OA NA A : Option Addr} {on oc nn nc n c : Nat} {g g2 : GT} {l : List Bool} {Y Z : World} (he : Hid (thinG (pOnly l) g = g2)) (h : Hid (RG Y Y.heap.size ⟨OA, on, oc⟩ ⟨NA, nn, nc⟩ g)) (hb : Hid (Below Y.heap.size Y X)) (h2 : Hid (RB Z Z.heap.size ⟨A, n, c⟩ l)) (hb2 : Hid (Below Z.heap.size Z X)) (hs : Hid (Below W.heap.size W X)) :
    Calls Try.prog 22 #[.agg #[.slice OA on oc, .slice NA nn nc], .slice A n c] X fun e w' => ∃ A n c A2 n2 c2, e = .returned (.agg #[.slice A n c, .slice A2 n2 c2]) ∧ Hid (RG w' w'.heap.size ⟨A, n, c⟩ ⟨A2, n2, c2⟩ g2) ∧ Out W X w' :=
  (c_only h hb h2 hb2 hs).mono fun e w' ⟨A, n, c, A2, n2, c2, q0, _, q1, q2⟩ => ⟨A, n, c, A2, n2, c2, q0, by rw [← he.out]; exact q1, q2⟩
theorem c_dead2 {W X : World} {OA NA : Option Addr} {on oc nn nc : Nat} {g : GT} {who : Int} {l : List Bool} {Y : World} (he : Hid (deadL g who = l)) (h : Hid (RG Y Y.heap.size ⟨OA, on, oc⟩ ⟨NA, nn, nc⟩ g)) (hb : Hid (Below Y.heap.size Y X)) (hs : Hid (Below W.heap.size W X)) :
    Calls Try.prog 20 #[.agg #[.slice OA on oc, .slice NA nn nc], .int .i64 who] X fun e w' => ∃ A n c, e = .returned (.slice A n c) ∧ Hid (RB w' w'.heap.size ⟨A, n, c⟩ l) ∧ Out W X w' :=
  (c_dead h hb hs).mono fun e w' ⟨A, n, c, q0, q1, q2⟩ => ⟨A, n, c, q0, by rw [← he.out]; exact q1, q2⟩
theorem keep6 {W w' : World} {b b2 b3 : Nat} {v0 v1 v2 v3 v4 v5 : Value} (hs : Hid (Below W.heap.size W w')) (hb : b < W.heap.size) (hb2 : b2 < W.heap.size) (hb3 : b3 < W.heap.size) (c0 : W.cell? ⟨b, 0, none⟩ = some v0) (c1 : W.cell? ⟨b, 1, none⟩ = some v1) (d0 : W.cell? ⟨b2, 0, none⟩ = some v2) (d1 : W.cell? ⟨b2, 1, none⟩ = some v3) (e0 : W.cell? ⟨b3, 0, none⟩ = some v4) (e1 : W.cell? ⟨b3, 1, none⟩ = some v5) :
    w'.cell? ⟨b, 0, none⟩ = some v0 ∧ w'.cell? ⟨b, 1, none⟩ = some v1 ∧ w'.cell? ⟨b2, 0, none⟩ = some v2 ∧ w'.cell? ⟨b2, 1, none⟩ = some v3 ∧ w'.cell? ⟨b3, 0, none⟩ = some v4 ∧ w'.cell? ⟨b3, 1, none⟩ = some v5 :=
  ⟨(hs.out.cell (p := ⟨b, 0, none⟩) hb).trans c0, (hs.out.cell (p := ⟨b, 1, none⟩) hb).trans c1, (hs.out.cell (p := ⟨b2, 0, none⟩) hb2).trans d0, (hs.out.cell (p := ⟨b2, 1, none⟩) hb2).trans d1, (hs.out.cell (p := ⟨b3, 0, none⟩) hb3).trans e0, (hs.out.cell (p := ⟨b3, 1, none⟩) hb3).trans e1⟩

set_option maxRecDepth 100000 in
set_option maxHeartbeats 16000000 in
theorem cutsW_any (B : Nat) (OA NA : Option Addr) (on oc nn nc : Nat) (g : GT) (A3 : Option Addr) (n3 c3 : Nat) (l : List Bool) (who0 : Int) (A4 : Option Addr) (n4 c4 : Nat) (tl : List Int) (w : World) (hB : B ≤ w.heap.size) (hg : RG w B ⟨OA, on, oc⟩ ⟨NA, nn, nc⟩ g) (hr : RB w B ⟨A3, n3, c3⟩ l) (ht : RI w B ⟨A4, n4, c4⟩ tl) :
    Calls Try.prog 6 #[.agg #[.slice OA on oc, .slice NA nn nc], .slice A3 n3 c3, .int .i64 who0, .slice A4 n4 c4] w fun e w' => e = .returned (.bool true) ∧ Below w.heap.size w w' := by
  have hbx : Below w.heap.size w (w.alloc (.cells #[.slice OA on oc, .slice NA nn nc] 25)) := (Below.refl _ _).alloc (Nat.le_refl _) _
  have hz0 : w.heap.size + 1 ≤ (w.alloc (.cells #[.slice OA on oc, .slice NA nn nc] 25)).heap.size := by simp
  have Hg := hide ((hg.below (hbx.mono hB)).more (Nat.le_trans hB hbx.size))
  have hn3 : n3 ≤ 2 ^ 63 - 1 := Nat.le_trans hr.2.1 hr.2.2.1
  have hn4 : n4 ≤ 2 ^ 63 - 1 := Nat.le_trans ht.2.1 ht.2.2.1
  have Hr := hide ((RB.below hr (hbx.mono hB)).more (Nat.le_trans hB hbx.size))
  have Ht := hide ((RI.below ht (hbx.mono hB)).more (Nat.le_trans hB hbx.size))
  have Hbox := hide (box_new w OA NA on oc nn nc 25)
  have Hbx := hide hbx
  clear hg hr ht hbx
  go_enter Try.func6, Try.ntmps6
  go_wp2_with fail
  generalize w.alloc (.cells #[.slice OA on oc, .slice NA nn nc] 25) = W at *
  have h1 : w.heap.size < W.heap.size := by omega
  obtain ⟨c0, c1⟩ := Hbox.out
  simp only [SL.v] at c0 c1
  refine (heavy_any _ OA NA on oc nn nc g W (Nat.le_refl _) Hg.out).mono ?_
  rintro e w2 ⟨rfl, hb2⟩
  have h12 : w.heap.size < w2.heap.size := by have := hb2.size; omega
  have Hb2 := hide hb2
  obtain ⟨c0', c1'⟩ := keep2 hb2 h1 c0 c1
  clear hb2
  cases hh : decide (0 < hvG g)
  · go_wp2_with fail
    refine (rmay_any _ OA NA on oc nn nc g w2 (Nat.le_refl _) (rg_x Hg Hb2)).mono ?_
    rintro e w3 ⟨rfl, hb3⟩
    have Hb3 := hide (Hb2.out.trans (hb3.mono Hb2.out.size))
    obtain ⟨d0, d1⟩ := keep2 Hb3.out h1 c0 c1
    clear hb3 c0' c1' hh
    by_cases hm : mayG g = 0
    · have hm' : (mayG g != 0) = false := by simp [hm]
      obtain ⟨m1, m2, m3⟩ := may_facts hm
      have hl1 := Hg.out.own.len
      have hl2 := Hg.out.nxt.len
      simp only at hl1 hl2
      obtain rfl : nn = on := by omega
      have hon : nn ≤ 3000 := by omega
      have Hm := hide hm
      have HL : Hid (g.own.length = nn) := hide hl1
      clear m1 m2 m3 hl1 hl2 hm
      by_cases hqn3 : 300 < n3
      · have hqn3' : (300 : Int) < (n3 : Int) := by omega
        go_wp2_with fail
        refine (awake_any _).mono ?_
        rintro e w4 ⟨rfl, hb4⟩
        have Hf := hide (Hbx.out.trans ((Hb3.out.trans (hb4.mono Hb3.out.size)).mono (by omega)))
        clear hb4
        go_wp2_with fail
        go_ret
        exact ⟨rfl, Hf.out⟩
      · have hqn3' : ¬ (300 : Int) < (n3 : Int) := by omega
        by_cases hqn4 : 300 < n4
        · have hqn4' : (300 : Int) < (n4 : Int) := by omega
          go_wp2_with fail
          refine (awake_any _).mono ?_
          rintro e w4 ⟨rfl, hb4⟩
          have Hf := hide (Hbx.out.trans ((Hb3.out.trans (hb4.mono Hb3.out.size)).mono (by omega)))
          clear hb4
          go_wp2_with fail
          go_ret
          exact ⟨rfl, Hf.out⟩
        · have hqn4' : ¬ (300 : Int) < (n4 : Int) := by omega
          obtain ⟨who, hwho, hwe0⟩ := umod who0 2 (by omega) (by omega)
          have hwe : (IntKind.u64.wrap who0).tmod 2 = (who : Int) := hwe0
          have hww : IntKind.i64.wrap (who : Int) = (who : Int) := by rw [IntKind.wrap_i64]; omega
          go_wp2_with fail
          clear hwe hwe0 hww
          have Hg3 := hide (rg_x Hg Hb3)
          have Hr3 := hide (rb_x Hr Hb3)
          have Ht3 := hide (ri_x Ht Hb3)
          have hz3 := Hb3.out.size
          have h13 : w.heap.size < w3.heap.size := by omega
          have D0 := hide d0
          have D1 := hide d1
          go_upto_region 4 with fail
          go_cut [9, 10] from 44 to 50 (fun s9 s10 wx => ∃ (b9 b10 : Nat) (O1 : Option Addr) (n1 k1 : Nat) (N1 : Option Addr) (m1 j1 : Nat) (O2 : Option Addr) (n2 k2 : Nat) (N2 : Option Addr) (m2 j2 : Nat), s9 = .pointer (some ⟨b9, 0, none⟩) ∧ s10 = .pointer (some ⟨b10, 0, none⟩) ∧
            Hid (wx.heap[b9]? = some (.cells #[.slice O1 n1 k1, .slice N1 m1 j1] 25 (0, 0))) ∧ Hid (wx.heap[b10]? = some (.cells #[.slice O2 n2 k2, .slice N2 m2 j2] 25 (0, 0))) ∧ Hid (RG wx wx.heap.size ⟨O1, n1, k1⟩ ⟨N1, m1, j1⟩ (thinG (pOnly l) g)) ∧ Hid (RG wx wx.heap.size ⟨O2, n2, k2⟩ ⟨N2, m2, j2⟩ (thinG (pFoll g (who : Int) tl) g)) ∧ Hid (Below w3.heap.size w3 wx))
          case first =>
            go_region_held3 (fun w' => w'.cell? ⟨w.heap.size, 0, none⟩ = some (.slice OA nn oc) ∧ w'.cell? ⟨w.heap.size, 1, none⟩ = some (.slice NA nn nc))
              (first | go_keep | exact keep2 (by repeat (first | exact Hid.out (by assumption) | exact Below.refl _ _ | refine Below.drew ?_ | refine Below.setCell ?_ (by first | exact Nat.le_refl _ | (dsimp only; omega)) _ | refine Below.alloc ?_ (by first | omega | (simp; done) | (simp; omega)) _)) h13 D0.out D1.out)
              (first
                | (go_at_call 22; refine (c_only (W := w3) Hg3 (hide (by repeat (first | exact Hid.out (by assumption) | exact Below.refl _ _ | refine Below.drew ?_ | refine Below.setCell ?_ (by first | exact Nat.le_refl _ | (dsimp only; omega)) _ | refine Below.alloc ?_ (by first | omega | (simp; done) | (simp; omega)) _))) Hr3 (hide (by repeat (first | exact Hid.out (by assumption) | exact Below.refl _ _ | refine Below.drew ?_ | refine Below.setCell ?_ (by first | exact Nat.le_refl _ | (dsimp only; omega)) _ | refine Below.alloc ?_ (by first | omega | (simp; done) | (simp; omega)) _))) (hide (by repeat (first | exact Hid.out (by assumption) | exact Below.refl _ _ | refine Below.drew ?_ | refine Below.setCell ?_ (by first | exact Nat.le_refl _ | (dsimp only; omega)) _ | refine Below.alloc ?_ (by first | omega | (simp; done) | (simp; omega)) _)))).mono ?_; rintro e w5 ⟨kA, kn, kc, kA2, kn2, kc2, rfl, hkn, hk, hx1, hx2, hx3⟩; have hx1z := hx1.out.size; (try simp at hx1z); (try (have hz50 : w3.heap.size < w5.heap.size := (by omega))); (try (have hz51 : w3.heap.size + 1 < w5.heap.size := (by omega))); obtain ⟨u1, u2⟩ := bcell hx1.out; have hx2z := hx2.out.size)
                | (go_at_call 24; refine (c_foll (W := w3) Hg3 (hide (by repeat (first | exact Hid.out (by assumption) | exact Below.refl _ _ | refine Below.drew ?_ | refine Below.setCell ?_ (by first | exact Nat.le_refl _ | (dsimp only; omega)) _ | refine Below.alloc ?_ (by first | omega | (simp; done) | (simp; omega)) _))) Ht3 (hide (by repeat (first | exact Hid.out (by assumption) | exact Below.refl _ _ | refine Below.drew ?_ | refine Below.setCell ?_ (by first | exact Nat.le_refl _ | (dsimp only; omega)) _ | refine Below.alloc ?_ (by first | omega | (simp; done) | (simp; omega)) _))) (hide (by repeat (first | exact Hid.out (by assumption) | exact Below.refl _ _ | refine Below.drew ?_ | refine Below.setCell ?_ (by first | exact Nat.le_refl _ | (dsimp only; omega)) _ | refine Below.alloc ?_ (by first | omega | (simp; done) | (simp; omega)) _)))).mono ?_; rintro e w6 ⟨jA, jn, jc, jA2, jn2, jc2, rfl, hjn, hj, hy1, hy2, hy3⟩; have hy1z := hy1.out.size; (try simp at hy1z); (try (have hz60 : w5.heap.size < w6.heap.size := (by omega))); (try (have hz61 : w5.heap.size + 1 < w6.heap.size := (by omega))); (try (have hz62 : w3.heap.size < w6.heap.size := (by omega))); (try (have hz63 : w3.heap.size + 1 < w6.heap.size := (by omega))); obtain ⟨v1, v2⟩ := bcell hy1.out; have hy2z := hy2.out.size))
            all_goals (go_wp2_with fail)
            all_goals go_meet
            all_goals
              (try (have p0 : Hid (w5.heap[w3.heap.size]? = some ZeroO) := by first | with_reducible exact hide ((hx1.out.block _ (by first | (simp; done) | (simp; omega))).trans (new_d rfl)) | with_reducible exact hide ((hx1.out.block _ (by first | (simp; done) | (simp; omega))).trans old_d)))
              (try (have p1 : Hid (w5.heap[w3.heap.size + 1]? = some ZeroO) := by first | with_reducible exact hide ((hx1.out.block _ (by first | (simp; done) | (simp; omega))).trans (new_d (size_al _ _)))))
              (try (have q0 : Hid (w6.heap[w3.heap.size]? = some ZeroO) := by first | with_reducible exact hide ((hy1.out.block _ (by omega)).trans p0.out) | with_reducible exact hide ((hy1.out.block _ (by rw [size_al]; omega)).trans ((Below.heap_alloc _ _ _ (by omega)).trans p0.out))))
              (try (have q1 : Hid (w6.heap[w3.heap.size + 1]? = some ZeroO) := by first | with_reducible exact hide ((hy1.out.block _ (by omega)).trans p1.out)))
              (try (have r0 : Hid (w6.heap[w5.heap.size]? = some ZeroO) := by first | with_reducible exact hide ((hy1.out.block _ (by first | (simp; done) | (simp; omega))).trans (new_at rfl)) | with_reducible exact hide ((hy1.out.block _ (by first | (simp; done) | (simp; omega))).trans ((Below.heap_alloc _ _ _ (by first | (simp; done) | (simp; omega))).trans (new_at rfl)))))
              (try (have r1 : Hid (w6.heap[w5.heap.size + 1]? = some ZeroO) := by first | with_reducible exact hide ((hy1.out.block _ (by first | (simp; done) | (simp; omega))).trans (new_at (size_al _ _)))))
              exact meetAll rfl rfl hkn hx1 hjn hy1 (by first | with_reducible exact Below.refl _ _ | with_reducible exact (Below.refl _ _).alloc (Nat.le_refl _) _ | with_reducible exact ((Below.refl _ _).alloc (Nat.le_refl _) _).alloc (by rw [size_al]; omega) _) (by repeat (first | with_reducible exact Two.refl _ _ _ | with_reducible refine Two.alloc ?_ _ | with_reducible refine Two.setb ?_ _ _ | with_reducible refine Two.setc ?_ _ _)) (by first | (left; simp; done) | (left; simp; omega) | (right; left; simp; done) | (right; left; simp; omega) | (right; right; omega) | omega) (by first | (left; simp; done) | (left; simp; omega) | (right; left; simp; done) | (right; left; simp; omega) | (right; right; omega) | omega) (hide (by first | with_reducible exact two_off (by omega) (box_set (Hid.out (by assumption))) | with_reducible exact box_set (two_off (by omega) (Hid.out (by assumption))) | with_reducible exact box_set (Hid.out (by assumption)) | with_reducible exact (Below.heap_alloc _ _ _ (by first | omega | (rw [size_al]; omega) | (rw [size_al, size_al]; omega) | (rw [two_size]; omega))).trans (box_set (Hid.out (by assumption))) | with_reducible exact new_at rfl | with_reducible exact new_at (size_al _ _) | with_reducible exact new_at two_size | with_reducible exact (Below.heap_alloc _ _ _ (by first | omega | (rw [size_al]; omega) | (rw [size_al, size_al]; omega) | (rw [two_size]; omega))).trans (new_at rfl) | with_reducible exact two_off (by omega) (new_at rfl) | with_reducible exact box_set ((Below.heap_alloc _ _ _ (by first | omega | (rw [size_al]; omega) | (rw [size_al, size_al]; omega) | (rw [two_size]; omega))).trans (Hid.out (by assumption))))) (hide (by first | with_reducible exact two_off (by omega) (box_set (Hid.out (by assumption))) | with_reducible exact box_set (two_off (by omega) (Hid.out (by assumption))) | with_reducible exact box_set (Hid.out (by assumption)) | with_reducible exact (Below.heap_alloc _ _ _ (by first | omega | (rw [size_al]; omega) | (rw [size_al, size_al]; omega) | (rw [two_size]; omega))).trans (box_set (Hid.out (by assumption))) | with_reducible exact new_at rfl | with_reducible exact new_at (size_al _ _) | with_reducible exact new_at two_size | with_reducible exact (Below.heap_alloc _ _ _ (by first | omega | (rw [size_al]; omega) | (rw [size_al, size_al]; omega) | (rw [two_size]; omega))).trans (new_at rfl) | with_reducible exact two_off (by omega) (new_at rfl) | with_reducible exact box_set ((Below.heap_alloc _ _ _ (by first | omega | (rw [size_al]; omega) | (rw [size_al, size_al]; omega) | (rw [two_size]; omega))).trans (Hid.out (by assumption))))) (hide (by repeat (first | exact Hid.out (by assumption) | exact Below.refl _ _ | refine Below.drew ?_ | refine Below.setCell ?_ (by first | exact Nat.le_refl _ | (dsimp only; omega)) _ | refine Below.alloc ?_ (by first | omega | (simp; done) | (simp; omega)) _)))
          case rest =>
            obtain ⟨b9, b10, O1, n1, k1, N1, m1, j1, O2, n2, k2, N2, m2, j2, rfl, rfl, HB9, HB10, HA, HF, HW⟩ := hcut
            obtain ⟨w4, rfl⟩ : ∃ w4, w4 = wc := ⟨_, rfl⟩
            have hz4 := HW.out.size
            have hla1 := HA.out.own.len
            have hla2 := HA.out.nxt.len
            have hlf1 := HF.out.own.len
            have hlf2 := HF.out.nxt.len
            rw [thin_own Hm.out, HL.out] at hla1 hlf1
            rw [thin_len Hm.out, HL.out] at hla2 hlf2
            simp only at hla1 hla2 hlf1 hlf2
            subst hla1
            subst hla2
            subst hlf1
            subst hlf2
            have hb9 : b9 < w4.heap.size := (Array.getElem?_eq_some_iff.1 HB9.out).1
            have hb10 : b10 < w4.heap.size := (Array.getElem?_eq_some_iff.1 HB10.out).1
            have h14 : w.heap.size < w4.heap.size := by omega
            obtain ⟨e0, e1⟩ := keep2 HW.out h13 D0.out D1.out
            obtain ⟨f0, f1⟩ := cells_of HB9.out
            obtain ⟨g0, g1⟩ := cells_of HB10.out
            have Hg4 := hide (rg_x Hg3 HW)
            have Hr4 := hide (rb_x Hr3 HW)
            have Ht4 := hide (ri_x Ht3 HW)
            have Hb4 := hide (Hb3.out.trans (HW.out.mono hz3))
            have hmk := make_bools nn (by omega)
            have hrow := mark_zero (f := fun _ => true) (World.rowIs_made w4 (.bool false) nn 4)
            have Hrow := hide hrow
            have Hal := hide (show Below w4.heap.size w4 (w4.alloc (.cells (madeCells #[.bool false] nn) 4)) from (Below.refl _ _).alloc (Nat.le_refl _) _)
            have E0 := hide e0
            have E1 := hide e1
            have F0 := hide f0
            have F1 := hide f1
            have G0 := hide g0
            have G1 := hide g1
            clear hrow HB9 HB10 HW Hg3 Hr3 Ht3 Hb3 Hb2 Hg Hr Ht D0 D1 d0 d1 e1 f0 f1 g0 g1 c0 c1
            go_wp2_with fail
            clear hmk e0
            go_loopw [57] (fun i wr => ∃ k : Nat, k ≤ nn ∧ i = .int .i64 k ∧ wr.rowIs w4.heap.size 4 nn (markV (fun _ => true) k) ∧ Below w4.heap.size w4 wr) (fun i _ => nn - (intOf i).toNat)
            case atStart => exact ⟨0, Nat.zero_le _, rfl, Hrow.out, Hal.out⟩
            case round =>
              obtain ⟨k, hk, rfl, hrw, hb⟩ := hrel
              have hzr := hb.size
              have Hb := hide hb
              by_cases hlt : k < nn
              · have hlt' : (k : Int) < (nn : Int) := by omega
                obtain ⟨u0, hu0⟩ : ∃ u, wr.cell? ⟨w4.heap.size, k, none⟩ = some u := ⟨_, hrw.cell hlt⟩
                have hfz := hrw.frozen k
                have Hst := hide (mark_step hrw (v := true) rfl)
                have Hsb := hide (hb.setCell (p := ⟨w4.heap.size, k, none⟩) (Nat.le_refl _) (.bool true))
                clear hrw hb
                go_wp2_with fail
                go_roundw
                case rel => exact ⟨k + 1, by omega, by go_num, Hst.out, Hsb.out⟩
                case measure => simp [intOf]; omega
              · have hlt' : ¬ (k : Int) < (nn : Int) := by omega
                obtain rfl : k = nn := by omega
                have HAL : Hid (RB wr wr.heap.size ⟨some ⟨w4.heap.size, 0, none⟩, k, k⟩ (allL k)) := hide (mark_done hrw (by unfold maxLen; omega))
                have Hg7 := hide (rg_x Hg4 Hb)
                have HA7 := hide (rg_x HA Hb)
                have HF7 := hide (rg_x HF Hb)
                have Hr7 := hide (rb_x Hr4 Hb)
                have Ht7 := hide (ri_x Ht4 Hb)
                have Hb7 := hide (Hb4.out.trans (hb.mono (by have := Hb4.out.size; omega)))
                have h17 : w.heap.size < wr.heap.size := by omega
                have h97 : b9 < wr.heap.size := by omega
                have h107 : b10 < wr.heap.size := by omega
                obtain ⟨e0, e1, f0, f1, g0, g1⟩ := keep6 Hb h14 hb9 hb10 E0.out E1.out F0.out F1.out G0.out G1.out
                have Hs7 := hide (Below.refl wr.heap.size wr)
                have Hd7 := hide ((Below.refl wr.heap.size wr).drew)
                obtain ⟨bal, hbal⟩ : ∃ bal, bal = w4.heap.size := ⟨_, rfl⟩
                rw [← hbal] at HAL ⊢
                clear hrw hb Hb HA HF Hg4 Hr4 Ht4 E0 E1 F0 F1 G0 G1 Hrow Hal hbal
                have hma := thin_may (p := pOnly l) Hm.out
                have hmb := thin_may (p := pFoll g (who : Int) tl) Hm.out
                have Hall : Hid (thinG (pOnly (allL k)) g = g) := hide (by have := only_all Hm.out; rwa [HL.out] at this)
                have hself : ∀ g, sameG g g = true := same_self
                obtain ⟨w7, rfl⟩ : ∃ w7, w7 = wr := ⟨_, rfl⟩
                have hkk : ((k : Int) != (k : Int)) = false := by simp
                go_wp2_with fail
                go_upto_region 11 with fail
                go_cut [97] from 64 to 97 (fun s wx => s = .bool false ∧ Hid (Below w7.heap.size w7 wx))
                case first =>
                  go_region_held3 (fun w' => w'.cell? ⟨w.heap.size, 0, none⟩ = some (.slice OA k oc) ∧ w'.cell? ⟨w.heap.size, 1, none⟩ = some (.slice NA k nc) ∧ w'.cell? ⟨b9, 0, none⟩ = some (.slice O1 k k1) ∧ w'.cell? ⟨b9, 1, none⟩ = some (.slice N1 k j1) ∧ w'.cell? ⟨b10, 0, none⟩ = some (.slice O2 k k2) ∧ w'.cell? ⟨b10, 1, none⟩ = some (.slice N2 k j2))
                    (first | exact keep6 (by assumption) h17 h97 h107 e0 e1 f0 f1 g0 g1)
                    (first
                      | (go_at_call 10; refine (c_may (W := w7) (by assumption) (by assumption) (by assumption)).mono ?_; rintro e w1 ⟨rfl, hx1, hx2, hx3⟩)
                      | (go_at_call 22; refine (c_only2 (W := w7) Hall Hg7 (by assumption) HAL (by assumption) (by assumption)).mono ?_; rintro e w1 ⟨kA, kn, kc, kA2, kn2, kc2, rfl, hk0, hx1, hx2, hx3⟩)
                      | (go_at_call 12; refine (c_dsame (W := w7) (by assumption) (by assumption) Hg7 (by assumption) (by assumption)).mono ?_; rintro e w1 ⟨rfl, hx1, hx2, hx3⟩))
                  all_goals (go_wp2_with fail)
                  all_goals go_meet
                  all_goals exact ⟨rfl, (by assumption)⟩
                case rest =>
                  obtain ⟨rfl, HW8⟩ := hcut
                  obtain ⟨w8, rfl⟩ : ∃ w8, w8 = wc := ⟨_, rfl⟩
                  have hz8 := HW8.out.size
                  have Hg8 := hide (rg_x Hg7 HW8)
                  have HA8 := hide (rg_x HA7 HW8)
                  have HF8 := hide (rg_x HF7 HW8)
                  have Hr8 := hide (rb_x Hr7 HW8)
                  have Ht8 := hide (ri_x Ht7 HW8)
                  have Hb8 := hide (Hb7.out.trans (HW8.out.mono (by have := Hb7.out.size; omega)))
                  obtain ⟨p0, p1, q0, q1, s0, s1⟩ := keep6 HW8 h17 h97 h107 e0 e1 f0 f1 g0 g1
                  have P0 := hide p0
                  have P1 := hide p1
                  have Q1 := hide q1
                  have S1 := hide s1
                  have h18 : w.heap.size < w8.heap.size := by omega
                  clear e0 e1 f0 f1 g0 g1 p0 q0 q1 s0 s1 HAL Hall hma hmb
                  go_wp2_with fail
                  clear p1
                  go_loopw [101] (fun ii wr => ∃ i : Nat, i ≤ k ∧ ii = .int .i64 i ∧ wr = w8) (fun ii _ => k - (intOf ii).toNat)
                  case atStart => exact ⟨0, Nat.zero_le _, rfl, rfl⟩
                  case round =>
                    obtain ⟨i, hi, rfl, hwr⟩ := hrel
                    subst hwr
                    by_cases hlt2 : i < k
                    · have hlt2' : (i : Int) < (k : Int) := by omega
                      obtain ⟨b2, off2, r, A2, n2, c2, rfl, hbB2, hrr, hc2, hri⟩ := Hg8.out.nxt.at_ hlt2
                      obtain ⟨b3, off3, x0, rfl, hbB3, hx0, hc3⟩ := Hg8.out.own.at_ hlt2
                      obtain ⟨b4, off4, ra, A4', n4', c4', rfl, hbB4, hra, hc4, hria⟩ := HA8.out.nxt.at_ hlt2
                      obtain ⟨b5, off5, rf, A5', n5', c5', rfl, hbB5, hrf, hc5, hrif⟩ := HF8.out.nxt.at_ hlt2
                      rw [thin_at Hm.out hrr] at hra hrf
                      injection hra with hra
                      injection hrf with hrf
                      have hla := hria.len
                      have hlf := hrif.len
                      simp only at hla hlf
                      have Hla : Hid ((r.filter (pOnly l i)).length = n4') := hide (by rw [hra]; exact hla)
                      have Hlf : Hid ((r.filter (pFoll g (who : Int) tl i)).length = n5') := hide (by rw [hrf]; exact hlf)
                      have Hrow2 := hide (may_row Hm.out hrr)
                      have Hri := hide hri
                      have hn2 : n2 ≤ 3000 := by have q1 := Hrow2.out.2.1; have q2 := hri.len; simp only at q2; omega
                      have Hone : Hid ((x0 == (who : Int)) = true → n5' ≤ 1) := hide (fun h => by rw [← Hlf.out]; exact foll_one Hm.out hrr (by rw [getD_at hx0]; exact h))
                      have Hx0 : Hid (∀ q : Nat, pFoll g (who : Int) tl i (q : Int) = (!(x0 == (who : Int)) || (decide (i < tl.length) && (tl.getD i 0 == (q : Int))))) := hide (fun q => by unfold pFoll; rw [getD_at hx0])
                      have Hcap : Hid (∀ j, cntF (pOnly l i) r j ≤ 3000 ∧ cntF (pFoll g (who : Int) tl i) r j ≤ 3000) := hide (fun j => ⟨Nat.le_trans cntF_le Hrow2.out.2.1, Nat.le_trans cntF_le Hrow2.out.2.1⟩)
                      have e1 := P1.out
                      have e0 := P0.out
                      clear hra hrf hla hlf hria hrif hrr hri hx0
                      go_wp2_with fail
                      clear hc2
                      go_loopw [15, 16, 108] (fun nn1 kk1 jj wr2 => ∃ j : Nat, j ≤ n2 ∧ jj = .int .i64 j ∧ nn1 = .int .i64 (cntF (pOnly l i) r j) ∧ kk1 = .int .i64 (cntF (pFoll g (who : Int) tl i) r j) ∧ wr2 = wr) (fun _ _ jj _ => n2 - (intOf jj).toNat)
                      case atStart => exact ⟨0, Nat.zero_le _, rfl, rfl, rfl, rfl⟩
                      case round =>
                        obtain ⟨j, hj, rfl, rfl, rfl, hwr⟩ := hrel
                        subst hwr
                        by_cases hlt3 : j < n2
                        · have hlt3' : (j : Int) < (n2 : Int) := by omega
                          obtain ⟨b6, off6, x, rfl, hbB6, hx, hc6⟩ := Hri.out.at_ hlt3
                          obtain ⟨hq0, hq1⟩ := Hrow2.out.2.2 x (List.mem_of_getElem? hx)
                          obtain ⟨q, rfl⟩ := Int.eq_ofNat_of_zero_le hq0
                          have hqn : q < k := by have := HL.out; omega
                          have hqn' : (q : Int) < (k : Int) := by omega
                          have Hx := hide hx
                          obtain ⟨hcap1, hcap2⟩ := Hcap.out j
                          have Hy1 := hide (fun h => cntF_yes (p := pOnly l i) hx h)
                          have Hn1 := hide (fun h => cntF_no (p := pOnly l i) hx h)
                          have Hy2 := hide (fun h => cntF_yes (p := pFoll g (who : Int) tl i) hx h)
                          have Hn2 := hide (fun h => cntF_no (p := pFoll g (who : Int) tl i) hx h)
                          clear hx hq0 hq1
                          generalize hc1 : cntF (pOnly l i) r j = ca at *
                          generalize hc22 : cntF (pFoll g (who : Int) tl i) r j = cb at *
                          go_upto_region 20 with fail
                          go_cut [119] from 112 to 119 (fun s wx => s = .bool (pOnly l i (q : Int)) ∧ wx = wr)
                          case first =>
                            have Hpd : Hid (pOnly l i (q : Int) = (hasB l (i : Int) && hasB l (q : Int))) := hide rfl
                            go_wp2_with fail
                            refine (has_any _ A3 n3 c3 l (i : Int) wr Hr8.out).mono ?_
                            rintro e w9 ⟨rfl, rfl⟩
                            cases hh1 : hasB l (i : Int)
                            · have Hf : Hid (pOnly l i (q : Int) = false) := hide (by rw [Hpd.out, hh1]; rfl)
                              clear hh1
                              go_wp2_with fail
                              go_meet
                              exact ⟨by rw [Hf.out], rfl⟩
                            · have Hf : Hid (pOnly l i (q : Int) = hasB l (q : Int)) := hide (by rw [Hpd.out, hh1]; rfl)
                              clear hh1
                              go_wp2_with fail
                              refine (has_any _ A3 n3 c3 l (q : Int) _ Hr8.out).mono ?_
                              rintro e w9 ⟨rfl, rfl⟩
                              go_wp2_with fail
                              go_meet
                              exact ⟨by rw [Hf.out], rfl⟩
                          obtain ⟨rfl, hwr⟩ := hcut
                          rw [hwr]
                          clear hwr
                          cases hp1 : pOnly l i (q : Int)
                          · have en := hide (Hn1.out hp1)
                            clear hp1
                            go_upto_region 22 with fail
                            go_cut [142] from 122 to 142 (fun s wx => s = .bool (pFoll g (who : Int) tl i (q : Int)) ∧ wx = wr)
                            case first =>
                              have Hpd := hide (Hx0.out q)
                              cases hxw : x0 != (who : Int)
                              · have hx1 : (x0 == (who : Int)) = true := by simpa [bne] using hxw
                                by_cases hkn : i < n4
                                · have hkn' : (i : Int) < (n4 : Int) := by omega
                                  obtain ⟨b7, off7, y, rfl, hbB7, hy, hc7⟩ := Ht8.out.at_ hkn
                                  have hd : decide (i < tl.length) = true := by simpa using (List.getElem?_eq_some_iff.1 hy).1
                                  have Hf : Hid (pFoll g (who : Int) tl i (q : Int) = (y == (q : Int))) := hide (by rw [Hpd.out, hx1, hd, getD_at hy]; rfl)
                                  clear hy hd hx1
                                  cases hyq : y == (q : Int)
                                  · have Hf2 : Hid (pFoll g (who : Int) tl i (q : Int) = false) := hide (by rw [Hf.out, hyq])
                                    go_wp2_with fail
                                    go_meet
                                    exact ⟨by rw [Hf2.out], rfl⟩
                                  · have Hf2 : Hid (pFoll g (who : Int) tl i (q : Int) = true) := hide (by rw [Hf.out, hyq])
                                    go_wp2_with fail
                                    go_meet
                                    exact ⟨by rw [Hf2.out], rfl⟩
                                · have hkn' : ¬ (i : Int) < (n4 : Int) := by omega
                                  have Hf : Hid (pFoll g (who : Int) tl i (q : Int) = false) := hide (by rw [Hpd.out, hx1, decide_eq_false (by have h := Ht8.out.len; simp only at h; omega)]; rfl)
                                  clear hx1
                                  go_wp2_with fail
                                  go_meet
                                  exact ⟨by rw [Hf.out], rfl⟩
                              · have hx1 : (x0 == (who : Int)) = false := by simpa [bne] using hxw
                                have Hf : Hid (pFoll g (who : Int) tl i (q : Int) = true) := hide (by rw [Hpd.out, hx1]; rfl)
                                clear hx1
                                go_wp2_with fail
                                go_meet
                                exact ⟨by rw [Hf.out], rfl⟩
                            obtain ⟨rfl, hwr2⟩ := hcut
                            rw [hwr2]
                            clear hwr2
                            cases hp2 : pFoll g (who : Int) tl i (q : Int)
                            · have ek := hide (Hn2.out hp2)
                              clear hp2
                              go_wp2_with fail
                              go_roundw
                              case rel => exact ⟨j + 1, by omega, by go_num, by rw [en.out], by rw [ek.out], by trivial⟩
                              case measure => simp [intOf]; omega
                            · have ek := hide (Hy2.out hp2)
                              clear hp2
                              go_wp2_with fail
                              go_roundw
                              case rel => exact ⟨j + 1, by omega, by go_num, by rw [en.out], by rw [ek.out]; simp, by trivial⟩
                              case measure => simp [intOf]; omega
                          · have en := hide (Hy1.out hp1)
                            clear hp1
                            go_upto_region 22 with fail
                            go_cut [142] from 122 to 142 (fun s wx => s = .bool (pFoll g (who : Int) tl i (q : Int)) ∧ wx = wr)
                            case first =>
                              have Hpd := hide (Hx0.out q)
                              cases hxw : x0 != (who : Int)
                              · have hx1 : (x0 == (who : Int)) = true := by simpa [bne] using hxw
                                by_cases hkn : i < n4
                                · have hkn' : (i : Int) < (n4 : Int) := by omega
                                  obtain ⟨b7, off7, y, rfl, hbB7, hy, hc7⟩ := Ht8.out.at_ hkn
                                  have hd : decide (i < tl.length) = true := by simpa using (List.getElem?_eq_some_iff.1 hy).1
                                  have Hf : Hid (pFoll g (who : Int) tl i (q : Int) = (y == (q : Int))) := hide (by rw [Hpd.out, hx1, hd, getD_at hy]; rfl)
                                  clear hy hd hx1
                                  cases hyq : y == (q : Int)
                                  · have Hf2 : Hid (pFoll g (who : Int) tl i (q : Int) = false) := hide (by rw [Hf.out, hyq])
                                    go_wp2_with fail
                                    go_meet
                                    exact ⟨by rw [Hf2.out], rfl⟩
                                  · have Hf2 : Hid (pFoll g (who : Int) tl i (q : Int) = true) := hide (by rw [Hf.out, hyq])
                                    go_wp2_with fail
                                    go_meet
                                    exact ⟨by rw [Hf2.out], rfl⟩
                                · have hkn' : ¬ (i : Int) < (n4 : Int) := by omega
                                  have Hf : Hid (pFoll g (who : Int) tl i (q : Int) = false) := hide (by rw [Hpd.out, hx1, decide_eq_false (by have h := Ht8.out.len; simp only at h; omega)]; rfl)
                                  clear hx1
                                  go_wp2_with fail
                                  go_meet
                                  exact ⟨by rw [Hf.out], rfl⟩
                              · have hx1 : (x0 == (who : Int)) = false := by simpa [bne] using hxw
                                have Hf : Hid (pFoll g (who : Int) tl i (q : Int) = true) := hide (by rw [Hpd.out, hx1]; rfl)
                                clear hx1
                                go_wp2_with fail
                                go_meet
                                exact ⟨by rw [Hf.out], rfl⟩
                            obtain ⟨rfl, hwr2⟩ := hcut
                            rw [hwr2]
                            clear hwr2
                            cases hp2 : pFoll g (who : Int) tl i (q : Int)
                            · have ek := hide (Hn2.out hp2)
                              clear hp2
                              go_wp2_with fail
                              go_roundw
                              case rel => exact ⟨j + 1, by omega, by go_num, by rw [en.out]; simp, by rw [ek.out], by trivial⟩
                              case measure => simp [intOf]; omega
                            · have ek := hide (Hy2.out hp2)
                              clear hp2
                              go_wp2_with fail
                              go_roundw
                              case rel => exact ⟨j + 1, by omega, by go_num, by rw [en.out]; simp, by rw [ek.out]; simp, by trivial⟩
                              case measure => simp [intOf]; omega
                        · have hlt3' : ¬ (j : Int) < (n2 : Int) := by omega
                          have hjl : r.length ≤ j := by have h := Hri.out.len; simp only at h; omega
                          have ec : cntF (pOnly l i) r j = n4' := (cntF_end hjl).trans Hla.out
                          have ef : cntF (pFoll g (who : Int) tl i) r j = n5' := (cntF_end hjl).trans Hlf.out
                          rw [ec, ef]
                          have hs4 : ((n4' : Int) != (n4' : Int)) = false := by simp
                          have hs5 : ((n5' : Int) != (n5' : Int)) = false := by simp
                          have q1 := Q1.out
                          have s1 := S1.out
                          clear ec ef hjl
                          cases hxw : x0 == (who : Int)
                          · go_wp2_with fail
                            go_roundw
                            case rel => exact ⟨i + 1, by omega, by go_num, by trivial⟩
                            case measure => simp [intOf]; omega
                          · have h51 := Hone.out hxw
                            have h51' : ¬ (1 : Int) < (n5' : Int) := by omega
                            go_wp2_with fail
                            go_roundw
                            case rel => exact ⟨i + 1, by omega, by go_num, by trivial⟩
                            case measure => simp [intOf]; omega
                    · have hlt2' : ¬ (i : Int) < (k : Int) := by omega
                      have p0 := P0.out
                      have p1 := P1.out
                      have Hs8 := hide (Below.refl wr.heap.size wr)
                      have Hnil : Hid (RI wr wr.heap.size ⟨none, 0, 0⟩ []) := hide (rows_nil _ _ _)
                      have Hdd := hide (dead_foll (who := (who : Int)) Hm.out)
                      have Hbz := Hb8.out.size
                      go_wp2_with fail
                      refine (c_foll (W := wr) Hg8 Hs8 Hnil Hs8 Hs8).mono ?_
                      rintro e w9 ⟨jA, jn, jc, jA2, jn2, jc2, rfl, _, hk9, hx1, hx2, hx3⟩
                      have HK9 := hide hk9.out
                      have HW9 := hide hx2.out
                      have HS9 := hide hx3.out
                      clear hk9 hx1 hx2 hx3
                      go_wp2_with fail
                      refine (c_dead2 (W := wr) Hdd HK9 HS9 HW9).mono ?_
                      rintro e w10 ⟨dA, dn, dc, rfl, hd, hy1, hy2, hy3⟩
                      have HD := hide hd.out
                      have HW10 := hide hy2.out
                      have hz10 := HW10.out.size
                      clear hd hy1 hy2 hy3
                      have hdn := HD.out.len
                      rw [List.length_map, List.length_range, HL.out] at hdn
                      simp only at hdn
                      subst hdn
                      have Hg10 := hide (rg_x Hg8 HW10)
                      have h20 : w.heap.size < w10.heap.size := by omega
                      obtain ⟨z0, z1⟩ := keep2 HW10.out h18 p0 p1
                      have Z0 := hide z0
                      have Z1 := hide z1
                      have Hb10 := hide (Hb8.out.trans (HW10.out.mono (by omega)))
                      clear p0 p1 z1
                      go_wp2_with fail
                      clear z0
                      go_loopw [185] (fun jj wr => ∃ m : Nat, m ≤ k ∧ jj = .int .i64 m ∧ Below w10.heap.size w10 wr) (fun jj _ => k - (intOf jj).toNat)
                      case atStart => exact ⟨0, Nat.zero_le _, rfl, Below.refl _ _⟩
                      case round =>
                        obtain ⟨m, hmk, rfl, hb⟩ := hrel
                        have hzr := hb.size
                        have Hb := hide hb
                        obtain ⟨z0, z1⟩ := keep2 hb h20 Z0.out Z1.out
                        by_cases hlt4 : m < k
                        · have hlt4' : (m : Int) < (k : Int) := by omega
                          obtain ⟨b6, off6, z, rfl, hbB6, hz, hc6⟩ := (HD.out.below hb).at_ hlt4
                          obtain ⟨b7, off7, x0, rfl, hbB7, hx0, hc7⟩ := ((Hg10.out.below hb).own).at_ hlt4
                          rw [List.getElem?_map, List.getElem?_range (by rw [HL.out]; exact hlt4), Option.map_some, getD_at hx0] at hz
                          injection hz with hz
                          clear hx0 hb
                          cases z
                          · go_wp2_with fail
                            go_quiet (fail)
                            have hbq : Below w10.heap.size w10 (wr.drewN nq) := ⟨Hb.out.os, Hb.out.tape, Hb.out.output, Hb.out.size, Hb.out.block⟩
                            go_wp2_with fail
                            go_roundw
                            case rel => exact ⟨m + 1, by omega, by go_num, hbq⟩
                            case measure => simp [intOf]; omega
                          · go_wp2_with fail
                            go_quiet (fail)
                            have hbq : Below w10.heap.size w10 (wr.drewN nq) := ⟨Hb.out.os, Hb.out.tape, Hb.out.output, Hb.out.size, Hb.out.block⟩
                            go_wp2_with fail
                            go_roundw
                            case rel => exact ⟨m + 1, by omega, by go_num, hbq⟩
                            case measure => simp [intOf]; omega
                        · have hlt4' : ¬ (m : Int) < (k : Int) := by omega
                          have Hbe := hide (Hb10.out.trans (hb.mono (by omega)))
                          have hkk2 : ((k : Int) == (k : Int)) = true := by simp
                          clear hb
                          go_wp2_with fail
                          refine (c_awake (W := w10) Hb).mono ?_
                          rintro e w11 ⟨rfl, hx1, hx2, hx3⟩
                          have Hf := hide (Hbx.out.trans ((Hb10.out.trans (hx2.out.mono (by omega))).mono (by omega)))
                          clear hx1 hx2 hx3
                          go_wp2_with fail
                          go_ret
                          exact ⟨rfl, Hf.out⟩
    · have hm' : (mayG g != 0) = true := by simp [hm]
      clear hm
      go_wp2_with fail
      refine (awake_any _).mono ?_
      rintro e w4 ⟨rfl, hb4⟩
      have Hf := hide (Hbx.out.trans ((Hb3.out.trans (hb4.mono Hb3.out.size)).mono (by omega)))
      clear hb4
      go_wp2_with fail
      go_ret
      exact ⟨rfl, Hf.out⟩
  · go_wp2_with fail
    refine (awake_any _).mono ?_
    rintro e w4 ⟨rfl, hb4⟩
    have Hf := hide (Hbx.out.trans ((Hb2.out.trans (hb4.mono Hb2.out.size)).mono (by omega)))
    clear hb4
    go_wp2_with fail
    go_ret
    exact ⟨rfl, Hf.out⟩
end Go.Proofs.Ytdcdpknlloffjaa.Gr
