/- The walks of the program's mayInit, hasRoom, mayCommands, Goals, mayGoals and May. -/
import Derived.Test.YtddbplgcglgloaaMDevB
import Derived.OwnWalk
namespace Go.Proofs.Ytddbplgcglgloaa
open Go.RowKit Ex
open Go.Sort (grow)
set_option linter.unusedSimpArgs false
set_option linter.unusedVariables false

set_option maxHeartbeats 1000000 in
theorem dinit_any (B : Nat) (x : M8) (m : MT) (w : World) (hB : B ≤ w.heap.size) (hrm : RM w B x m) :
    Calls Try.prog 18 #[.agg x.cells] w fun e w' => e = .returned (.int .i64 (firstE [needE m.vars m.ie 1 false false false, needE m.vars m.is 1 true false false])) ∧ Below w.heap.size w w' := by
  have hbx := (Below.refl w.heap.size w).alloc (Nat.le_refl _) (.cells x.cells 28)
  have Hrm0 := hide (hrm.below (hbx.mono hB))
  have Hbx0 := hide (boxM_new w x)
  have Hb0 := hide hbx
  have hz0 : w.heap.size + 1 ≤ (w.alloc (.cells x.cells 28)).heap.size := by simp
  have Ho := hide hrm.1
  obtain ⟨⟨vA, vn, vc⟩, ⟨io, im, iA, il, ic⟩, ⟨jo, jm, jA, jl, jc⟩, ⟨eA, en, ec⟩, ⟨sA, sn, sc⟩, ⟨aA, an, ac⟩, ⟨nA, nn, nc⟩, ⟨pA, pn, pc⟩⟩ := x
  clear hrm hbx
  simp only [M8.cells, SL.v] at *
  have q0 : (w.alloc (.cells #[.slice vA vn vc, .int .i64 io, .int .i64 im, .slice iA il ic, .int .i64 jo, .int .i64 jm, .slice jA jl jc, .slice eA en ec, .slice sA sn sc, .slice aA an ac, .slice nA nn nc, .slice pA pn pc] 28)).cell? ⟨w.heap.size, 0, none⟩ = some (.slice vA vn vc) := Hbx0.out 0 _ rfl
  have q1 := Hbx0.out 1 _ rfl
  have q2 := Hbx0.out 2 _ rfl
  have q3 := Hbx0.out 3 _ rfl
  obtain ⟨dg, hdg⟩ := Hrm0.out.2.2.1
  have Hdg := hide hdg
  obtain ⟨dh, hdh⟩ := Hrm0.out.2.2.2.1
  have Hdh := hide hdh
  have Hrv := hide Hrm0.out.2.1
  clear hdg hdh Hrm0
  go_enter Try.func18, Try.ntmps18
  go_wp2_with fail
  clear q0 q1 q2 q3
  generalize hW : w.alloc (.cells #[.slice vA vn vc, .int .i64 io, .int .i64 im, .slice iA il ic, .int .i64 jo, .int .i64 jm, .slice jA jl jc, .slice eA en ec, .slice sA sn sc, .slice aA an ac, .slice nA nn nc, .slice pA pn pc] 28) = w0 at *
  clear hW
  refine (needs_any B vA vn vc m.vars dg io im iA il ic m.ie 1 false false false w0 Ho.out.1 Ho.out.2.1 Ho.out.2.2.1 (by omega) Hdg.out Hrv.out Ho.out.2.2.2).mono ?_
  rintro e w1 ⟨rfl, hb1⟩
  have hz1 := hb1.size
  have Hb1 := hide (Hb0.out.trans (hb1.mono (by omega)))
  have Hdh1 := hide (Hdh.out.below (hb1.mono (by omega)))
  have Hrv1 := hide (Hrv.out.below (hb1.mono (by omega)))
  have Hbx1 := hide (Hbx0.out.below hb1 (by omega))
  clear hb1 Hb0 Hdg Hdh Hrv Hbx0
  have HM : Hid (firstE [needE m.vars m.ie 1 false false false, needE m.vars m.is 1 true false false] = firstE [needE m.vars m.ie 1 false false false, needE m.vars m.is 1 true false false]) := hide rfl
  by_cases hx : needE m.vars m.ie 1 false false false = 0
  · have hxb : (needE m.vars m.ie 1 false false false != 0) = false := by simp [hx]
    have HM2 : Hid (firstE [needE m.vars m.ie 1 false false false, needE m.vars m.is 1 true false false] = needE m.vars m.is 1 true false false) := hide (by
      rw [first_zero HM.out hx, firstE, firstE]
      split
      · rename_i h; exact h.symm
      · rfl)
    clear hx HM
    have q0 := Hbx1.out 0 _ rfl
    have q1 := Hbx1.out 4 _ rfl
    have q2 := Hbx1.out 5 _ rfl
    have q3 := Hbx1.out 6 _ rfl
    go_wp2_with fail
    clear q0 q1 q2 q3
    refine (dhold_any B vA vn vc m.vars dh jo jm jA jl jc m.is w1 Ho.out (by omega) Hdh1.out Hrv1.out).mono ?_
    rintro e w2 ⟨rfl, hb2⟩
    have Hb2 := hide (Hb1.out.trans (hb2.mono (by omega)))
    clear hb2
    go_wp2_with fail
    go_ret
    exact ⟨ret_int HM2.out.symm, Hb2.out⟩
  · have hxb : (needE m.vars m.ie 1 false false false != 0) = true := by simp [hx]
    have Hf := hide (first_not HM.out hx)
    clear hx HM
    go_wp2_with fail
    go_ret
    exact ⟨ret_int Hf.out.symm, Hb1.out⟩

theorem BoxM.all {w : World} {b : Nat} {x : M8} (h : BoxM w b x) : w.cell? ⟨b, 0, none⟩ = some (.slice x.vars.A x.vars.n x.vars.c) ∧ w.cell? ⟨b, 1, none⟩ = some (.int .i64 x.ie.op) ∧ w.cell? ⟨b, 2, none⟩ = some (.int .i64 x.ie.n) ∧ w.cell? ⟨b, 3, none⟩ = some (.slice x.ie.A x.ie.len x.ie.cap) ∧
    w.cell? ⟨b, 4, none⟩ = some (.int .i64 x.is.op) ∧ w.cell? ⟨b, 5, none⟩ = some (.int .i64 x.is.n) ∧ w.cell? ⟨b, 6, none⟩ = some (.slice x.is.A x.is.len x.is.cap) ∧ w.cell? ⟨b, 7, none⟩ = some (.slice x.env.A x.env.n x.env.c) ∧ w.cell? ⟨b, 8, none⟩ = some (.slice x.sys.A x.sys.n x.sys.c) ∧
    w.cell? ⟨b, 9, none⟩ = some (.slice x.asm.A x.asm.n x.asm.c) ∧ w.cell? ⟨b, 10, none⟩ = some (.slice x.ens.A x.ens.n x.ens.c) ∧ w.cell? ⟨b, 11, none⟩ = some (.slice x.prio.A x.prio.n x.prio.c) :=
  ⟨h 0 _ rfl, h 1 _ rfl, h 2 _ rfl, h 3 _ rfl, h 4 _ rfl, h 5 _ rfl, h 6 _ rfl, h 7 _ rfl, h 8 _ rfl, h 9 _ rfl, h 10 _ rfl, h 11 _ rfl⟩
def hasL (m : MT) : Nat → Nat
  | 0 => m.env.length
  | 1 => m.sys.length
  | 2 => m.asm.length
  | 3 => m.ens.length
  | _ => m.prio.length
def mostL : Nat → Nat
  | 0 => 12
  | 1 => 12
  | 2 => 4
  | 3 => 4
  | _ => 6
theorem sizes_no {m : MT} {k : Nat} (hk : k < 5) (h : mostL k < hasL m k) : sizesE m = 7 := by
  unfold sizesE
  have hk' : k = 0 ∨ k = 1 ∨ k = 2 ∨ k = 3 ∨ k = 4 := by omega
  rw [if_pos]
  rcases hk' with rfl | rfl | rfl | rfl | rfl <;> simp only [mostL, hasL] at h <;> omega
theorem sizes_yes {m : MT} (h : ∀ j < 5, hasL m j ≤ mostL j) : sizesE m = 0 := by
  unfold sizesE
  rw [if_neg]
  have h0 := h 0 (by omega)
  have h1 := h 1 (by omega)
  have h2 := h 2 (by omega)
  have h3 := h 3 (by omega)
  have h4 := h 4 (by omega)
  simp only [mostL, hasL] at h0 h1 h2 h3 h4
  omega
theorem room_tab (G : Nat) (w : World) (en sn an nn pn : Nat) (h : w.heap[G]? = some (.cells #[.int .i64 (en : Int), .int .i64 12, .int .i64 (sn : Int), .int .i64 12, .int .i64 (an : Int), .int .i64 4, .int .i64 (nn : Int), .int .i64 4, .int .i64 (pn : Int), .int .i64 6] 76 (0, 0))) (m : MT) (h1 : m.env.length = en) (h2 : m.sys.length = sn) (h3 : m.asm.length = an) (h4 : m.ens.length = nn) (h5 : m.prio.length = pn)
    (bs : en ≤ 2 ^ 63 - 1 ∧ sn ≤ 2 ^ 63 - 1 ∧ an ≤ 2 ^ 63 - 1 ∧ nn ≤ 2 ^ 63 - 1 ∧ pn ≤ 2 ^ 63 - 1) (k : Nat) (hk : k < 5) :
    ∃ a b : Nat, w.cell? ⟨G, k * 2, none⟩ = some (.int .i64 (a : Int)) ∧ w.cell? ⟨G, k * 2 + 1, none⟩ = some (.int .i64 (b : Int)) ∧ a ≤ 2 ^ 63 - 1 ∧ b ≤ 12 ∧ hasL m k = a ∧ mostL k = b := by
  have hk' : k = 0 ∨ k = 1 ∨ k = 2 ∨ k = 3 ∨ k = 4 := by omega
  have c : ∀ i v, (#[.int .i64 (en : Int), .int .i64 12, .int .i64 (sn : Int), .int .i64 12, .int .i64 (an : Int), .int .i64 4, .int .i64 (nn : Int), .int .i64 4, .int .i64 (pn : Int), .int .i64 6] : Array Value)[i]? = some v → w.cell? ⟨G, i, none⟩ = some v := fun i v hv => by
    rw [cell_of_row _ _ i _ 76 (0, 0) h]; exact hv
  rcases hk' with rfl | rfl | rfl | rfl | rfl
  · exact ⟨en, 12, c 0 _ rfl, c 1 _ rfl, bs.1, by omega, h1, rfl⟩
  · exact ⟨sn, 12, c 2 _ rfl, c 3 _ rfl, bs.2.1, by omega, h2, rfl⟩
  · exact ⟨an, 4, c 4 _ rfl, c 5 _ rfl, bs.2.2.1, by omega, h3, rfl⟩
  · exact ⟨nn, 4, c 6 _ rfl, c 7 _ rfl, bs.2.2.2.1, by omega, h4, rfl⟩
  · exact ⟨pn, 6, c 8 _ rfl, c 9 _ rfl, bs.2.2.2.2, by omega, h5, rfl⟩

set_option maxRecDepth 100000 in
set_option maxHeartbeats 2000000 in
theorem droom_any (B : Nat) (x : M8) (m : MT) (w : World) (hB : B ≤ w.heap.size) (hrm : RM w B x m) :
    Calls Try.prog 19 #[.agg x.cells] w fun e w' => e = .returned (.bool (decide (sizesE m = 0))) ∧ Below w.heap.size w w' := by
  have hbx := (Below.refl w.heap.size w).alloc (Nat.le_refl _) (.cells x.cells 28)
  have Hbx0 := hide (boxM_new w x)
  have Hb0 := hide hbx
  have hz0 : (w.alloc (.cells x.cells 28)).heap.size = w.heap.size + 1 := by simp
  obtain ⟨⟨vA, vn, vc⟩, ⟨io, im, iA, il, ic⟩, ⟨jo, jm, jA, jl, jc⟩, ⟨eA, en, ec⟩, ⟨sA, sn, sc⟩, ⟨aA, an, ac⟩, ⟨nA, nn, nc⟩, ⟨pA, pn, pc⟩⟩ := x
  have bE := hrm.2.2.2.2.1.2
  have bS := hrm.2.2.2.2.2.1.2
  have bA := hrm.2.2.2.2.2.2.1.2
  have bN := hrm.2.2.2.2.2.2.2.1.2
  have bP := hrm.2.2.2.2.2.2.2.2.2
  have LE := hide hrm.2.2.2.2.1.1
  have LS := hide hrm.2.2.2.2.2.1.1
  have LA := hide hrm.2.2.2.2.2.2.1.1
  have LN := hide hrm.2.2.2.2.2.2.2.1.1
  have LP := hide hrm.2.2.2.2.2.2.2.2.1
  have xE : en ≤ 2 ^ 63 - 1 := Nat.le_trans bE.1 bE.2.1
  have xS : sn ≤ 2 ^ 63 - 1 := Nat.le_trans bS.1 bS.2.1
  have xA : an ≤ 2 ^ 63 - 1 := Nat.le_trans bA.1 bA.2.1
  have xN : nn ≤ 2 ^ 63 - 1 := Nat.le_trans bN.1 bN.2.1
  have xP : pn ≤ 2 ^ 63 - 1 := Nat.le_trans bP.1 bP.2.1
  clear hrm hbx bE bS bA bN bP
  simp only [M8.cells, SL.v] at *
  have Hbx1 := Hbx0
  obtain ⟨_, _, _, _, _, _, _, r1, r2, r3, r4, r5⟩ := Hbx1.out.all
  clear Hbx1
  simp only at r1 r2 r3 r4 r5
  have hbT := (Below.refl (w.alloc (.cells #[.slice vA vn vc, .int .i64 io, .int .i64 im, .slice iA il ic, .int .i64 jo, .int .i64 jm, .slice jA jl jc, .slice eA en ec, .slice sA sn sc, .slice aA an ac, .slice nA nn nc, .slice pA pn pc] 28)).heap.size (w.alloc (.cells #[.slice vA vn vc, .int .i64 io, .int .i64 im, .slice iA il ic, .int .i64 jo, .int .i64 jm, .slice jA jl jc, .slice eA en ec, .slice sA sn sc, .slice aA an ac, .slice nA nn nc, .slice pA pn pc] 28))).alloc (Nat.le_refl _) (.cells #[.int .i64 (en : Int), .int .i64 12, .int .i64 (sn : Int), .int .i64 12, .int .i64 (an : Int), .int .i64 4, .int .i64 (nn : Int), .int .i64 4, .int .i64 (pn : Int), .int .i64 6] 76)
  have Hb1 := hide (Hb0.out.trans (hbT.mono (by omega)))
  have Htab : Hid (((w.alloc (.cells #[.slice vA vn vc, .int .i64 io, .int .i64 im, .slice iA il ic, .int .i64 jo, .int .i64 jm, .slice jA jl jc, .slice eA en ec, .slice sA sn sc, .slice aA an ac, .slice nA nn nc, .slice pA pn pc] 28)).alloc (.cells #[.int .i64 (en : Int), .int .i64 12, .int .i64 (sn : Int), .int .i64 12, .int .i64 (an : Int), .int .i64 4, .int .i64 (nn : Int), .int .i64 4, .int .i64 (pn : Int), .int .i64 6] 76)).heap[w.heap.size + 1]? = some (.cells #[.int .i64 (en : Int), .int .i64 12, .int .i64 (sn : Int), .int .i64 12, .int .i64 (an : Int), .int .i64 4, .int .i64 (nn : Int), .int .i64 4, .int .i64 (pn : Int), .int .i64 6] 76 (0, 0))) := hide (by
    have h := heap_alloc_new (w.alloc (.cells #[.slice vA vn vc, .int .i64 io, .int .i64 im, .slice iA il ic, .int .i64 jo, .int .i64 jm, .slice jA jl jc, .slice eA en ec, .slice sA sn sc, .slice aA an ac, .slice nA nn nc, .slice pA pn pc] 28)) (.cells #[.int .i64 (en : Int), .int .i64 12, .int .i64 (sn : Int), .int .i64 12, .int .i64 (an : Int), .int .i64 4, .int .i64 (nn : Int), .int .i64 4, .int .i64 (pn : Int), .int .i64 6] 76)
    rw [hz0] at h
    exact h)
  have hz1 : w.heap.size + 2 ≤ ((w.alloc (.cells #[.slice vA vn vc, .int .i64 io, .int .i64 im, .slice iA il ic, .int .i64 jo, .int .i64 jm, .slice jA jl jc, .slice eA en ec, .slice sA sn sc, .slice aA an ac, .slice nA nn nc, .slice pA pn pc] 28)).alloc (.cells #[.int .i64 (en : Int), .int .i64 12, .int .i64 (sn : Int), .int .i64 12, .int .i64 (an : Int), .int .i64 4, .int .i64 (nn : Int), .int .i64 4, .int .i64 (pn : Int), .int .i64 6] 76)).heap.size := by simp
  clear hbT Hb0 Hbx0
  go_enter Try.func19, Try.ntmps19
  go_wp2_with fail
  clear r1 r2 r3 r4 r5 hz0
  generalize (w.alloc (.cells #[.slice vA vn vc, .int .i64 io, .int .i64 im, .slice iA il ic, .int .i64 jo, .int .i64 jm, .slice jA jl jc, .slice eA en ec, .slice sA sn sc, .slice aA an ac, .slice nA nn nc, .slice pA pn pc] 28)).alloc (.cells #[.int .i64 (en : Int), .int .i64 12, .int .i64 (sn : Int), .int .i64 12, .int .i64 (an : Int), .int .i64 4, .int .i64 (nn : Int), .int .i64 4, .int .i64 (pn : Int), .int .i64 6] 76) = V at *
  go_loopw [27] (fun i wr => ∃ k : Nat, k ≤ 5 ∧ i = .int .i64 k ∧ Hid (∀ j < k, hasL m j ≤ mostL j) ∧ Below V.heap.size V wr) (fun i _ => 5 - (intOf i).toNat)
  case atStart => exact ⟨0, by omega, rfl, hide (fun j h => absurd h (by omega)), Below.refl _ _⟩
  case round =>
    obtain ⟨k, hk, rfl, HT, hbw⟩ := hrel
    have hzr := hbw.size
    by_cases hlt : k < 5
    · have hlt' : ((k : Int) < 5) := by omega
      obtain ⟨a, b, c0, c1, ha, hb, HA, HB⟩ := room_tab (w.heap.size + 1) wr en sn an nn pn ((hbw.block _ (by omega)).trans Htab.out) m LE.out LS.out LA.out LN.out LP.out ⟨xE, xS, xA, xN, xP⟩ k hlt
      have hbA := (Below.refl wr.heap.size wr).alloc (Nat.le_refl _) (.cells #[.int .i64 (a : Int), .int .i64 (b : Int)] 76)
      have HbA := hide (hbw.trans (hbA.mono hzr))
      by_cases hab : b < a
      · have h1 : decide ((b : Int) < (a : Int)) = true := by simp; omega
        have h2 : decide (b < a) = true := by simp; omega
        have Hf : Hid (decide (sizesE m = 0) = false) := hide (by
          rw [sizes_no hlt (by rw [HA, HB]; exact hab)]; decide)
        have Hbf := hide (Hb1.out.trans (HbA.out.mono (by have := Hb1.out.size; omega)))
        clear hab HA HB hbA hbw
        go_wp2_with fail
        go_ret
        exact ⟨ret_bool Hf.out.symm, Hbf.out⟩
      · have h1 : decide ((b : Int) < (a : Int)) = false := by simp; omega
        have h2 : decide (b < a) = false := by simp; omega
        have HT2 : Hid (∀ j < k + 1, hasL m j ≤ mostL j) := hide (fun j hj => by
          by_cases e : j = k
          · subst e; rw [HA, HB]; omega
          · exact HT.out j (by omega))
        clear hab HA HB hbA hbw
        go_wp2_with fail
        go_roundw
        case rel => exact ⟨k + 1, by omega, by go_num, HT2, HbA.out⟩
        case measure => simp [intOf]; omega
    · have hlt' : ¬ ((k : Int) < 5) := by omega
      have Hf : Hid (decide (sizesE m = 0) = true) := hide (by
        rw [sizes_yes (fun j hj => HT.out j (by omega))]; decide)
      have Hbf := hide (Hb1.out.trans (hbw.mono (by have := Hb1.out.size; omega)))
      go_wp2_with fail
      go_ret
      exact ⟨ret_bool Hf.out.symm, Hbf.out⟩
end Go.Proofs.Ytddbplgcglgloaa
