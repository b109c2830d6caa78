/- The walk of parrylaw5's Heavy: its number. The walks of parrylaw5's yes and small: a module that may be, newly laid. A region that draws its order and copies modules into new variables: 'a, b := m, m'. What ModuleSides and ModuleMore begin with: a module that holds one command, and how heavy both are. Rows of records that are read out, appended to, and lie anew: their cells in chunks. 'append([]E{}, l...)' and what is appended to it, whatever l is: nil, empty or not. -/
import Derived.Test.YtbppdalfcldodaaGreatGMd
import Derived.Deep.RegionHeld3
import Derived.OrdersHeld
import Derived.Test.YtbppdalfcldodaaGreatGLaw
import Derived.Test.YtbppdalfcldodaaGreatGDev
import Derived.Laws.AppendOwn
import Derived.OwnWalk
namespace Go.Proofs.YtbppdalfcldodaaGreat
open Go.RowKit Ex
open Go.Sort (grow)
set_option linter.unusedSimpArgs false
set_option linter.unusedVariables false

theorem vheavy_le : ∀ (l : List Dom.V) (i : Nat), i ≤ 10 → Dom.heavyGo i l ≤ 11
  | [], i, h => by simp [Dom.heavyGo]
  | v :: r, i, h => by
    rw [Dom.heavyGo]; split
    · omega
    · rename_i h1
      exact vheavy_le r (i + 1) (by omega)
theorem vheavy_bd (l : List Dom.V) : 0 ≤ Dom.heavyGo 0 l ∧ Dom.heavyGo 0 l ≤ 11 := ⟨Dom.heavy_nonneg l 0, vheavy_le l 0 (by omega)⟩
theorem q_heavyX {W : World} {B : Nat} {x : E5} {t : T} {dd : Nat} {os : Array Obj} (hB : B ≤ W.heap.size) (Hre : Hid (EX W B x t)) : Calls Tryz.prog 9 #[.agg #[.int .i64 x.op, .int .i64 x.n, .slice x.A x.len x.cap]] (grow (redrawn W dd) os) fun e w'' => e = .returned (.int .i64 (heavyE t)) ∧ ∃ p : Regrown, w'' = grow (redrawn W p.d) p.os := by
  obtain ⟨d, hre⟩ := Hre.out
  exact q_heavy hB (hide hre)
def hvE : List T → Int → Int
  | [], x => x
  | t :: r, x => hvE r (x + heavyE t)
def hvS : List ST → Int → Int
  | [], x => x
  | s :: r, x => hvS r (x + heavyE s.e)
def hvC : List CT → Int → Option Int
  | [], x => some x
  | c :: r, x => if 12 < c.sets.length then none else hvC r (hvS c.sets (x + heavyE c.guard))
def k3 (m : MT) (x : Int) : Int := hvE m.prio (hvE m.ens (hvE m.asm x))
def k2 (m : MT) (o : Option Int) : Int := match o with
  | none => 1
  | some x => k3 m x
def k1 (m : MT) (o : Option Int) : Int := match o with
  | none => 1
  | some x => k2 m (hvC m.sys x)
def hvBad (m : MT) : Prop := 0 < Dom.heavyGo 0 m.vars ∨ 16 < m.env.length ∨ 16 < m.sys.length ∨ 8 < m.asm.length ∨ 8 < m.ens.length ∨ 8 < m.prio.length
instance (m : MT) : Decidable (hvBad m) := by unfold hvBad; infer_instance
def hvM (m : MT) : Int := if hvBad m then 1 else k1 m (hvC m.env (heavyE m.ie + heavyE m.is))
theorem hv_one {m : MT} (h : hvBad m) : hvM m = 1 := if_pos h
theorem hv_on {m : MT} (h : ¬ hvBad m) : hvM m = k1 m (hvC m.env (heavyE m.ie + heavyE m.is)) := if_neg h
theorem hvC_bad {l : List CT} {k : Nat} {c : CT} (x : Int) (h : l[k]? = some c) (hb : 12 < c.sets.length) : hvC (l.drop k) x = none := by rw [drop_at h, hvC, if_pos hb]
theorem hvC_on {l : List CT} {k : Nat} {c : CT} (x : Int) (h : l[k]? = some c) (hb : ¬ 12 < c.sets.length) : hvC (l.drop k) x = hvC (l.drop (k + 1)) (hvS c.sets (x + heavyE c.guard)) := by rw [drop_at h, hvC, if_neg hb]
theorem hvC_end {l : List CT} {k : Nat} (x : Int) (h : l.length ≤ k) : hvC (l.drop k) x = some x := by rw [List.drop_of_length_le h, hvC]
theorem hvS_on {l : List ST} {k : Nat} {c : ST} (x : Int) (h : l[k]? = some c) : hvS (l.drop k) x = hvS (l.drop (k + 1)) (x + heavyE c.e) := by rw [drop_at h, hvS]
theorem hvS_end {l : List ST} {k : Nat} (x : Int) (h : l.length ≤ k) : hvS (l.drop k) x = x := by rw [List.drop_of_length_le h, hvS]
theorem hvE_on {l : List T} {k : Nat} {c : T} (x : Int) (h : l[k]? = some c) : hvE (l.drop k) x = hvE (l.drop (k + 1)) (x + heavyE c) := by rw [drop_at h, hvE]
theorem hvE_end {l : List T} {k : Nat} (x : Int) (h : l.length ≤ k) : hvE (l.drop k) x = x := by rw [List.drop_of_length_le h, hvE]
theorem hvE_bd : ∀ (l : List T) (x : Int), 0 ≤ x → 0 ≤ hvE l x ∧ hvE l x ≤ x + 1000 * (l.length : Int)
  | [], x, h => by simp [hvE]; omega
  | t :: r, x, h => by
    obtain ⟨y1, y2⟩ := heavy_bd t
    have := hvE_bd r (x + heavyE t) (by omega)
    rw [hvE, List.length_cons]
    omega
theorem hvS_bd : ∀ (l : List ST) (x : Int), 0 ≤ x → 0 ≤ hvS l x ∧ hvS l x ≤ x + 1000 * (l.length : Int)
  | [], x, h => by simp [hvS]; omega
  | s :: r, x, h => by
    obtain ⟨y1, y2⟩ := heavy_bd s.e
    have := hvS_bd r (x + heavyE s.e) (by omega)
    rw [hvS, List.length_cons]
    omega
theorem hvC_bd : ∀ (l : List CT) (x y : Int), 0 ≤ x → hvC l x = some y → 0 ≤ y ∧ y ≤ x + 13000 * (l.length : Int)
  | [], x, y, h, e => by simp [hvC] at e; simp; omega
  | c :: r, x, y, h, e => by
    rw [hvC] at e
    split at e
    · cases e
    · obtain ⟨y1, y2⟩ := heavy_bd c.guard
      have h1 := hvS_bd c.sets (x + heavyE c.guard) (by omega)
      have h2 := hvC_bd r _ y h1.1 e
      rw [List.length_cons]
      omega
theorem hvM_bd (m : MT) : 0 ≤ hvM m ∧ hvM m ≤ 1000000 := by
  by_cases hb : hvBad m
  · rw [hv_one hb]; omega
  · rw [hv_on hb]
    have hl : m.env.length ≤ 16 ∧ m.sys.length ≤ 16 ∧ m.asm.length ≤ 8 ∧ m.ens.length ≤ 8 ∧ m.prio.length ≤ 8 := by unfold hvBad at hb; omega
    obtain ⟨y1, y2⟩ := heavy_bd m.ie
    obtain ⟨z1, z2⟩ := heavy_bd m.is
    cases h1 : hvC m.env (heavyE m.ie + heavyE m.is) with
    | none => simp [k1]
    | some x =>
      have b1 := hvC_bd _ _ _ (by omega) h1
      simp only [k1]
      cases h2 : hvC m.sys x with
      | none => simp [k2]
      | some y =>
        have b2 := hvC_bd _ _ _ b1.1 h2
        simp only [k2, k3]
        have b3 := hvE_bd m.asm y b2.1
        have b4 := hvE_bd m.ens _ b3.1
        have b5 := hvE_bd m.prio _ b4.1
        omega
set_option maxRecDepth 100000 in
set_option maxHeartbeats 8000000 in
theorem hvx_any (B : Nat) (x : M8) (m : MT) (w : World) (hB : B ≤ w.heap.size) (hrm : RM w B x m) :
    Calls Tryz.prog 34 #[.agg x.cells] w fun e w' => e = .returned (.int .i64 (hvM m)) ∧ Below w.heap.size w w' := by
  have HL : Hid (m.env.length = x.env.n ∧ m.sys.length = x.sys.n ∧ m.asm.length = x.asm.n ∧ m.ens.length = x.ens.n ∧ m.prio.length = x.prio.n) := hide ⟨hrm.2.2.2.2.1.1, hrm.2.2.2.2.2.1.1, hrm.2.2.2.2.2.2.1.1, hrm.2.2.2.2.2.2.2.1.1, hrm.2.2.2.2.2.2.2.2.1⟩
  have hbx := (Below.refl w.heap.size w).alloc (Nat.le_refl _) (.cells x.cells 28)
  have Hrm0 := hide (hrm.below (hbx.mono hB))
  have Hbx0 := hide (boxM_new w x)
  have Hb0 := hide hbx
  have hz0 : w.heap.size + 1 ≤ (w.alloc (.cells x.cells 28)).heap.size := by simp
  have Ho := hide hrm.1
  obtain ⟨⟨vA, vn, vc⟩, ⟨io, im, iA, il, ic⟩, ⟨jo, jm, jA, jl, jc⟩, ⟨eA, en, ec⟩, ⟨sA, sn, sc⟩, ⟨aA, an, ac⟩, ⟨nA, nn, nc⟩, ⟨pA, pn, pc⟩⟩ := x
  have bE := hrm.2.2.2.2.1.2
  have bS := hrm.2.2.2.2.2.1.2
  have bA := hrm.2.2.2.2.2.2.1.2
  have bN := hrm.2.2.2.2.2.2.2.1.2
  have bP := hrm.2.2.2.2.2.2.2.2.2
  have xE : en ≤ 2 ^ 63 - 1 := Nat.le_trans bE.1 bE.2.1
  have xS : sn ≤ 2 ^ 63 - 1 := Nat.le_trans bS.1 bS.2.1
  have xA : an ≤ 2 ^ 63 - 1 := Nat.le_trans bA.1 bA.2.1
  have xN : nn ≤ 2 ^ 63 - 1 := Nat.le_trans bN.1 bN.2.1
  have xP : pn ≤ 2 ^ 63 - 1 := Nat.le_trans bP.1 bP.2.1
  have xV : vn ≤ 2 ^ 63 - 1 := hrm.1.1
  obtain ⟨v1, v2⟩ := vheavy_bd m.vars
  clear hrm hbx bE bS bA bN bP
  simp only [M8.cells, SL.v] at *
  have q0 : (w.alloc (.cells #[.slice vA vn vc, .int .i64 io, .int .i64 im, .slice iA il ic, .int .i64 jo, .int .i64 jm, .slice jA jl jc, .slice eA en ec, .slice sA sn sc, .slice aA an ac, .slice nA nn nc, .slice pA pn pc] 28)).cell? ⟨w.heap.size, 0, none⟩ = some (.slice vA vn vc) := Hbx0.out 0 _ rfl
  go_enter Tryz.func34, Tryz.ntmps34
  go_wp2_with fail
  clear q0
  generalize hW : w.alloc (.cells #[.slice vA vn vc, .int .i64 io, .int .i64 im, .slice iA il ic, .int .i64 jo, .int .i64 jm, .slice jA jl jc, .slice eA en ec, .slice sA sn sc, .slice aA an ac, .slice nA nn nc, .slice pA pn pc] 28) = w0 at *
  clear hW
  refine (Dom.heavy_any vA vn vc B m.vars w0 Ho.out.1 (by omega) Hrm0.out.2.1 Ho.out.2.2.2).mono ?_
  rintro e w1 ⟨rfl, hb1⟩
  have hz1 := hb1.size
  have Hb1 := hide (Hb0.out.trans (hb1.mono (by omega)))
  have Hrm1 := hide (Hrm0.out.below (hb1.mono (by omega)))
  have Hbx1 := hide (Hbx0.out.below hb1 (by omega))
  clear hb1 Hb0 Hrm0 Hbx0
  have r1 : w1.cell? ⟨w.heap.size, 7, none⟩ = some (.slice eA en ec) := Hbx1.out 7 _ rfl
  have r2 : w1.cell? ⟨w.heap.size, 8, none⟩ = some (.slice sA sn sc) := Hbx1.out 8 _ rfl
  have r3 : w1.cell? ⟨w.heap.size, 9, none⟩ = some (.slice aA an ac) := Hbx1.out 9 _ rfl
  have r4 : w1.cell? ⟨w.heap.size, 10, none⟩ = some (.slice nA nn nc) := Hbx1.out 10 _ rfl
  have r5 : w1.cell? ⟨w.heap.size, 11, none⟩ = some (.slice pA pn pc) := Hbx1.out 11 _ rfl
  by_cases hh : 0 < Dom.heavyGo 0 m.vars
  · have hhb : decide (0 < Dom.heavyGo 0 m.vars) = true := by simp [hh]
    go_wp2_with fail
    go_ret
    exact ⟨ret_int (hv_one (by obtain ⟨q1, q2, q3, q4, q5⟩ := HL.out; unfold hvBad; omega)).symm, Hb1.out⟩
  · have hhb : decide (0 < Dom.heavyGo 0 m.vars) = false := by simp; omega
    by_cases hs0 : 16 < en
    · have hsb0 : decide ((16 : Int) < (en : Int)) = true := by simp; omega
      have hsc0 : decide (16 < en) = true := by simp; omega
      go_wp2_with fail
      go_ret
      exact ⟨ret_int (hv_one (by obtain ⟨q1, q2, q3, q4, q5⟩ := HL.out; unfold hvBad; omega)).symm, Hb1.out⟩
    · have hsb0 : decide ((16 : Int) < (en : Int)) = false := by simp; omega
      have hsc0 : decide (16 < en) = false := by simp; omega
      by_cases hs1 : 16 < sn
      · have hsb1 : decide ((16 : Int) < (sn : Int)) = true := by simp; omega
        have hsc1 : decide (16 < sn) = true := by simp; omega
        go_wp2_with fail
        go_ret
        exact ⟨ret_int (hv_one (by obtain ⟨q1, q2, q3, q4, q5⟩ := HL.out; unfold hvBad; omega)).symm, Hb1.out⟩
      · have hsb1 : decide ((16 : Int) < (sn : Int)) = false := by simp; omega
        have hsc1 : decide (16 < sn) = false := by simp; omega
        by_cases hs2 : 8 < an
        · have hsb2 : decide ((8 : Int) < (an : Int)) = true := by simp; omega
          have hsc2 : decide (8 < an) = true := by simp; omega
          go_wp2_with fail
          go_ret
          exact ⟨ret_int (hv_one (by obtain ⟨q1, q2, q3, q4, q5⟩ := HL.out; unfold hvBad; omega)).symm, Hb1.out⟩
        · have hsb2 : decide ((8 : Int) < (an : Int)) = false := by simp; omega
          have hsc2 : decide (8 < an) = false := by simp; omega
          by_cases hs3 : 8 < nn
          · have hsb3 : decide ((8 : Int) < (nn : Int)) = true := by simp; omega
            have hsc3 : decide (8 < nn) = true := by simp; omega
            go_wp2_with fail
            go_ret
            exact ⟨ret_int (hv_one (by obtain ⟨q1, q2, q3, q4, q5⟩ := HL.out; unfold hvBad; omega)).symm, Hb1.out⟩
          · have hsb3 : decide ((8 : Int) < (nn : Int)) = false := by simp; omega
            have hsc3 : decide (8 < nn) = false := by simp; omega
            by_cases hs4 : 8 < pn
            · have hsb4 : decide ((8 : Int) < (pn : Int)) = true := by simp; omega
              have hsc4 : decide (8 < pn) = true := by simp; omega
              go_wp2_with fail
              go_ret
              exact ⟨ret_int (hv_one (by obtain ⟨q1, q2, q3, q4, q5⟩ := HL.out; unfold hvBad; omega)).symm, Hb1.out⟩
            · have hsb4 : decide ((8 : Int) < (pn : Int)) = false := by simp; omega
              have hsc4 : decide (8 < pn) = false := by simp; omega
              go_wp2_with fail
              clear r1 r2 r3 r4 r5 hhb
              have C1 := cell_regrown (Hbx1.out 1 _ rfl)
              have C2 := cell_regrown (Hbx1.out 2 _ rfl)
              have C3 := cell_regrown (Hbx1.out 3 _ rfl)
              have C4 := cell_regrown (Hbx1.out 4 _ rfl)
              have C5 := cell_regrown (Hbx1.out 5 _ rfl)
              have C6 := cell_regrown (Hbx1.out 6 _ rfl)
              have hBW : B ≤ w1.heap.size := by omega
              have HM0 : Hid (hvM m = k1 m (hvC m.env (heavyE m.ie + heavyE m.is))) := hide (hv_on (by obtain ⟨q1, q2, q3, q4, q5⟩ := HL.out; unfold hvBad; omega))
              have He1 := hide Hrm1.out.2.2.1
              have He2 := hide Hrm1.out.2.2.2.1
              clear v1 v2 hh
              obtain ⟨z1, z2⟩ := heavy_bd m.ie
              obtain ⟨z3, z4⟩ := heavy_bd m.is
              refine wp_region_quiet_below (by kernel_rfl) (by kernel_rfl) ?_
              repeat (go_big_quiet_step (first | (go_at_call 9; exact q_heavyX hBW He1) | (go_at_call 9; exact q_heavyX hBW He2)))
              refine wpQuiet_nil ?_
              intro w2 hw2
              obtain ⟨pp, hpp⟩ := hw2
              have hb2 : Below w1.heap.size w1 w2 := by rw [hpp]; exact below_regrown w1 pp.d pp.os
              clear hpp C1 C2 C3 C4 C5 C6 He1 He2
              have hz2 := hb2.size
              have Hb2 := hide (Hb1.out.trans (hb2.mono (by omega)))
              have Hrm2 := hide (Hrm1.out.below (hb2.mono (by omega)))
              have Hbx2 := hide (Hbx1.out.below hb2 (by omega))
              clear hb2 Hb1 Hrm1 Hbx1
              have r1 : w2.cell? ⟨w.heap.size, 7, none⟩ = some (.slice eA en ec) := Hbx2.out 7 _ rfl
              have r2 : w2.cell? ⟨w.heap.size, 8, none⟩ = some (.slice sA sn sc) := Hbx2.out 8 _ rfl
              generalize heavyE m.ie = x1 at *
              generalize heavyE m.is = x2 at *
              go_wp2_with fail
              clear r1 r2
              go_loopw [3, 60] (fun nv i wr => ∃ x : Int, nv = .int .i64 x ∧ 0 ≤ x ∧ ((i = .int .i64 0 ∧ x ≤ 2000 ∧ Hid (hvM m = k1 m (hvC m.env x))) ∨ (i = .int .i64 1 ∧ x ≤ 210000 ∧ Hid (hvM m = k2 m (hvC m.sys x))) ∨ (i = .int .i64 2 ∧ x ≤ 418000 ∧ Hid (hvM m = k3 m x))) ∧ Below w2.heap.size w2 wr) (fun _ i _ => 2 - (intOf i).toNat)
              case atStart => exact ⟨_, rfl, by omega, .inl ⟨rfl, by omega, HM0⟩, Below.refl _ _⟩
              case round =>
                obtain ⟨x, rfl, hx1, hi, hbo⟩ := hrel
                rcases hi with ⟨rfl, hx2, HE⟩ | ⟨rfl, hx2, HE⟩ | ⟨rfl, hx2, HE⟩
                · have hix : ∀ w : World, (Instr.index 113 (.agg #[.slice eA en ec, .slice sA sn sc]) (.int .i64 0)).run Tryz.prog w = .ok (.slice eA en ec) w := by
                    intro w
                    kernel_rfl
                  obtain ⟨wo, rfl⟩ : ∃ wo, wo = wr := ⟨_, rfl⟩
                  go_wp2_with fail
                  clear hix
                  go_loopw [3, 65] (fun nv i wr => ∃ (k : Nat) (x : Int), k ≤ en ∧ i = .int .i64 k ∧ nv = .int .i64 x ∧ 0 ≤ x ∧ x ≤ 2000 + 13000 * (k : Int) ∧ Hid (hvM m = k1 m (hvC (m.env.drop k) x)) ∧ Below w2.heap.size w2 wr) (fun _ i _ => en - (intOf i).toNat)
                  case atStart => exact ⟨0, _, by omega, rfl, rfl, by omega, by omega, HE, hbo⟩
                  case round =>
                    clear HE
                    obtain ⟨k, x, hk, rfl, rfl, hx1, hx2, HE, hbw⟩ := hrel
                    have hzr := hbw.size
                    obtain ⟨wk, rfl⟩ : ∃ wk, wk = wr := ⟨_, rfl⟩
                    by_cases hlt : k < en
                    · have hlt' : ((k : Int) < (en : Int)) := by omega
                      obtain ⟨b, off, cc, eA2, hbB, hku, ⟨⟨⟨go, gn, gA, gl, gc⟩, ⟨c0, c1, c2⟩, ⟨dg, hex⟩⟩, ⟨tA, tn, tc⟩, c3, hrs⟩⟩ := ((Hrm2.out.2.2.2.2.1).keep (w' := wk) (fun b o y h1 hy => CmdAt.keep h1 hy (fun p hp => (hbw.mono (by omega)).cell hp))).at_ (k := k) hlt
                      simp only [SL.v] at eA2 c0 c1 c2 c3 hex
                      subst eA2
                      have Hku := hide hku
                      have Htn := hide hrs.1
                      clear hku
                      have htc := hrs.2.1
                      have htm := hrs.2.2.1
                      simp only at htc htm
                      unfold maxLen at htm
                      have hbA := (Below.refl wk.heap.size wk).alloc (Nat.le_refl _) (.cells #[.int .i64 go, .int .i64 gn, .slice gA gl gc, .slice tA tn tc] 71)
                      have Hex := hide (hex.below (hbA.mono (by omega)))
                      have Hrs0 := hide (hrs.keep (w' := wk.alloc (.cells #[.int .i64 go, .int .i64 gn, .slice gA gl gc, .slice tA tn tc] 71)) (fun b o y h1 hy => SetAt.keep h1 hy (fun p hp => (hbA.mono (by omega)).cell hp)))
                      have HbA := hide (hbw.trans (hbA.mono hzr))
                      have hzA : wk.heap.size + 1 ≤ (wk.alloc (.cells #[.int .i64 go, .int .i64 gn, .slice gA gl gc, .slice tA tn tc] 71)).heap.size := by simp
                      have Hx4 := hide (box4 wk go gn gA gl gc tA tn tc)
                      obtain ⟨⟨f0, f1, f2⟩, f3⟩ := Hx4.out
                      clear hex hrs hbA hbw
                      by_cases ht : 12 < tn
                      · have htb : decide ((12 : Int) < (tn : Int)) = true := by simp; omega
                        have htb2 : decide (12 < tn) = true := by simp; omega
                        have Hbf := hide (Hb2.out.trans (HbA.out.mono (by have := Hb2.out.size; omega)))
                        go_wp2_with fail
                        go_ret
                        exact ⟨ret_int (by rw [HE.out, hvC_bad x Hku.out (by rw [Htn.out]; exact ht)]; rfl), Hbf.out⟩
                      · have htb : decide ((12 : Int) < (tn : Int)) = false := by simp; omega
                        have htb2 : decide (12 < tn) = false := by simp; omega
                        go_wp2_with fail
                        clear c0 c1 c2 c3 f0 f1 f2 f3
                        generalize hWk : wk.alloc (.cells #[.int .i64 go, .int .i64 gn, .slice gA gl gc, .slice tA tn tc] 71) = W1 at *
                        generalize hNk : wk.heap.size = Nk at *
                        clear hWk
                        refine (heavy_any B dg go gn gA gl gc cc.guard W1 (by omega) Hex.out).mono ?_
                        rintro e wc ⟨rfl, hbc⟩
                        have hzc := hbc.size
                        have Hbc := hide (HbA.out.trans (hbc.mono (by omega)))
                        have Hrsc := hide (Hrs0.out.keep (w' := wc) (fun b o y h1 hy => SetAt.keep h1 hy (fun p hp => (hbc.mono (by omega)).cell hp)))
                        have f3 := (hbc.cell (p := ⟨Nk, 3, none⟩) (by show Nk < W1.heap.size; omega)).trans Hx4.out.2
                        obtain ⟨y1, y2⟩ := heavy_bd cc.guard
                        have HE2 : Hid (hvM m = k1 m (hvC (m.env.drop (k + 1)) (hvS cc.sets (x + heavyE cc.guard)))) := hide (by rw [HE.out, hvC_on x Hku.out (by rw [Htn.out]; exact ht)])
                        clear HE
                        have Hrs : Hid (Rows SetAt 5 wc B ⟨tA, tn, tc⟩ cc.sets) := Hrsc
                        clear hbc HbA Hex Hrs0 Hx4 Hrsc
                        generalize heavyE cc.guard = y at *
                        go_wp2_with fail
                        clear f3
                        have hKeep : ∀ wr : World, Below w2.heap.size w2 wr → True := fun _ _ => trivial
                        go_loopw [3, 81] (fun nv i wr => ∃ (j : Nat) (x : Int), j ≤ tn ∧ i = .int .i64 j ∧ nv = .int .i64 x ∧ 0 ≤ x ∧ x ≤ (2000 + 13000 * (k : Int) + 1000) + 1000 * (j : Int) ∧ Hid (hvM m = k1 m (hvC (m.env.drop (k + 1)) (hvS (cc.sets.drop j) x))) ∧ Below wc.heap.size wc wr) (fun _ i _ => tn - (intOf i).toNat)
                        case atStart => exact ⟨0, _, by omega, rfl, rfl, by omega, by omega, HE2, Below.refl _ _⟩
                        case round =>
                          clear HE2
                          obtain ⟨j, x, hj, rfl, rfl, hx1, hx2, HE2, hbw2⟩ := hrel
                          have hzr2 := hbw2.size
                          by_cases hlt2 : j < tn
                          · have hlt2' : ((j : Int) < (tn : Int)) := by omega
                            obtain ⟨b2, off2, s, eA3, hbB2, hku2, ⟨c0, c1, ⟨so, sm, sO, sl2, sc2⟩, ⟨c2, c3, c4⟩, ⟨ds, hes⟩⟩⟩ := (Hrs.out.keep (w' := wr) (fun b o y h1 hy => SetAt.keep h1 hy (fun p hp => (hbw2.mono (by omega)).cell hp))).at_ (k := j) hlt2
                            simp only at eA3 c0 c1 c2 c3 c4 hes
                            subst eA3
                            obtain ⟨z, p, te⟩ := s
                            simp only at c0 c1 hes
                            have Hku2 := hide hku2
                            clear hku2
                            have hbA := (Below.refl wr.heap.size wr).alloc (Nat.le_refl _) (.cells #[.int .i64 z, .bool p, .int .i64 so, .int .i64 sm, .slice sO sl2 sc2] 111)
                            have Hes := hide (hes.below (hbA.mono (by omega)))
                            have HbA := hide (hbw2.trans (hbA.mono hzr2))
                            have hzA : wr.heap.size + 1 ≤ (wr.alloc (.cells #[.int .i64 z, .bool p, .int .i64 so, .int .i64 sm, .slice sO sl2 sc2] 111)).heap.size := by simp
                            obtain ⟨d0, d1, d2, d3, d4⟩ := box5_new wr z p so sm sO sl2 sc2
                            clear hes hbA hbw2
                            go_wp2_with fail
                            clear c0 c1 c2 c3 c4 d0 d1 d2 d3 d4
                            generalize wr.alloc (.cells #[.int .i64 z, .bool p, .int .i64 so, .int .i64 sm, .slice sO sl2 sc2] 111) = W1 at *
                            refine (heavy_any B ds so sm sO sl2 sc2 te W1 (by omega) Hes.out).mono ?_
                            rintro e wd ⟨rfl, hbd⟩
                            have Hbc2 := hide (HbA.out.trans (hbd.mono (by omega)))
                            obtain ⟨y1, y2⟩ := heavy_bd te
                            have HE3 : Hid (hvM m = k1 m (hvC (m.env.drop (k + 1)) (hvS (cc.sets.drop (j + 1)) (x + heavyE te)))) := hide (by rw [HE2.out, hvS_on x Hku2.out])
                            clear hbd HbA Hes
                            generalize heavyE te = y at *
                            go_wp2_with fail
                            go_roundw
                            case rel => exact ⟨j + 1, x + y, by omega, by go_num, by go_num, by omega, by omega, HE3, Hbc2.out⟩
                            case measure => simp [intOf]; omega
                          · have hlt2' : ¬ ((j : Int) < (tn : Int)) := by omega
                            go_wp2_with fail
                            go_roundw
                            case rel => exact ⟨k + 1, x, by omega, by go_num, rfl, by omega, by omega, hide (by rw [HE2.out, hvS_end x (by rw [Htn.out]; omega)]), Hbc.out.trans (hbw2.mono (by omega))⟩
                            case measure => simp [intOf]; omega
                    · have hlt' : ¬ ((k : Int) < (en : Int)) := by omega
                      go_wp2_with fail
                      go_roundw
                      case rel => exact ⟨x, rfl, by omega, .inr (.inl ⟨rfl, by omega, hide (by rw [HE.out, hvC_end x (by rw [HL.out.1]; show en ≤ k; omega)]; rfl)⟩), hbw⟩
                      case measure => simp [intOf]
                · have hix : ∀ w : World, (Instr.index 113 (.agg #[.slice eA en ec, .slice sA sn sc]) (.int .i64 1)).run Tryz.prog w = .ok (.slice sA sn sc) w := by
                    intro w
                    kernel_rfl
                  obtain ⟨wo, rfl⟩ : ∃ wo, wo = wr := ⟨_, rfl⟩
                  go_wp2_with fail
                  clear hix
                  go_loopw [3, 65] (fun nv i wr => ∃ (k : Nat) (x : Int), k ≤ sn ∧ i = .int .i64 k ∧ nv = .int .i64 x ∧ 0 ≤ x ∧ x ≤ 210000 + 13000 * (k : Int) ∧ Hid (hvM m = k2 m (hvC (m.sys.drop k) x)) ∧ Below w2.heap.size w2 wr) (fun _ i _ => sn - (intOf i).toNat)
                  case atStart => exact ⟨0, _, by omega, rfl, rfl, by omega, by omega, HE, hbo⟩
                  case round =>
                    clear HE
                    obtain ⟨k, x, hk, rfl, rfl, hx1, hx2, HE, hbw⟩ := hrel
                    have hzr := hbw.size
                    obtain ⟨wk, rfl⟩ : ∃ wk, wk = wr := ⟨_, rfl⟩
                    by_cases hlt : k < sn
                    · have hlt' : ((k : Int) < (sn : Int)) := by omega
                      obtain ⟨b, off, cc, eA2, hbB, hku, ⟨⟨⟨go, gn, gA, gl, gc⟩, ⟨c0, c1, c2⟩, ⟨dg, hex⟩⟩, ⟨tA, tn, tc⟩, c3, hrs⟩⟩ := ((Hrm2.out.2.2.2.2.2.1).keep (w' := wk) (fun b o y h1 hy => CmdAt.keep h1 hy (fun p hp => (hbw.mono (by omega)).cell hp))).at_ (k := k) hlt
                      simp only [SL.v] at eA2 c0 c1 c2 c3 hex
                      subst eA2
                      have Hku := hide hku
                      have Htn := hide hrs.1
                      clear hku
                      have htc := hrs.2.1
                      have htm := hrs.2.2.1
                      simp only at htc htm
                      unfold maxLen at htm
                      have hbA := (Below.refl wk.heap.size wk).alloc (Nat.le_refl _) (.cells #[.int .i64 go, .int .i64 gn, .slice gA gl gc, .slice tA tn tc] 71)
                      have Hex := hide (hex.below (hbA.mono (by omega)))
                      have Hrs0 := hide (hrs.keep (w' := wk.alloc (.cells #[.int .i64 go, .int .i64 gn, .slice gA gl gc, .slice tA tn tc] 71)) (fun b o y h1 hy => SetAt.keep h1 hy (fun p hp => (hbA.mono (by omega)).cell hp)))
                      have HbA := hide (hbw.trans (hbA.mono hzr))
                      have hzA : wk.heap.size + 1 ≤ (wk.alloc (.cells #[.int .i64 go, .int .i64 gn, .slice gA gl gc, .slice tA tn tc] 71)).heap.size := by simp
                      have Hx4 := hide (box4 wk go gn gA gl gc tA tn tc)
                      obtain ⟨⟨f0, f1, f2⟩, f3⟩ := Hx4.out
                      clear hex hrs hbA hbw
                      by_cases ht : 12 < tn
                      · have htb : decide ((12 : Int) < (tn : Int)) = true := by simp; omega
                        have htb2 : decide (12 < tn) = true := by simp; omega
                        have Hbf := hide (Hb2.out.trans (HbA.out.mono (by have := Hb2.out.size; omega)))
                        go_wp2_with fail
                        go_ret
                        exact ⟨ret_int (by rw [HE.out, hvC_bad x Hku.out (by rw [Htn.out]; exact ht)]; rfl), Hbf.out⟩
                      · have htb : decide ((12 : Int) < (tn : Int)) = false := by simp; omega
                        have htb2 : decide (12 < tn) = false := by simp; omega
                        go_wp2_with fail
                        clear c0 c1 c2 c3 f0 f1 f2 f3
                        generalize hWk : wk.alloc (.cells #[.int .i64 go, .int .i64 gn, .slice gA gl gc, .slice tA tn tc] 71) = W1 at *
                        generalize hNk : wk.heap.size = Nk at *
                        clear hWk
                        refine (heavy_any B dg go gn gA gl gc cc.guard W1 (by omega) Hex.out).mono ?_
                        rintro e wc ⟨rfl, hbc⟩
                        have hzc := hbc.size
                        have Hbc := hide (HbA.out.trans (hbc.mono (by omega)))
                        have Hrsc := hide (Hrs0.out.keep (w' := wc) (fun b o y h1 hy => SetAt.keep h1 hy (fun p hp => (hbc.mono (by omega)).cell hp)))
                        have f3 := (hbc.cell (p := ⟨Nk, 3, none⟩) (by show Nk < W1.heap.size; omega)).trans Hx4.out.2
                        obtain ⟨y1, y2⟩ := heavy_bd cc.guard
                        have HE2 : Hid (hvM m = k2 m (hvC (m.sys.drop (k + 1)) (hvS cc.sets (x + heavyE cc.guard)))) := hide (by rw [HE.out, hvC_on x Hku.out (by rw [Htn.out]; exact ht)])
                        clear HE
                        have Hrs : Hid (Rows SetAt 5 wc B ⟨tA, tn, tc⟩ cc.sets) := Hrsc
                        clear hbc HbA Hex Hrs0 Hx4 Hrsc
                        generalize heavyE cc.guard = y at *
                        go_wp2_with fail
                        clear f3
                        have hKeep : ∀ wr : World, Below w2.heap.size w2 wr → True := fun _ _ => trivial
                        go_loopw [3, 81] (fun nv i wr => ∃ (j : Nat) (x : Int), j ≤ tn ∧ i = .int .i64 j ∧ nv = .int .i64 x ∧ 0 ≤ x ∧ x ≤ (210000 + 13000 * (k : Int) + 1000) + 1000 * (j : Int) ∧ Hid (hvM m = k2 m (hvC (m.sys.drop (k + 1)) (hvS (cc.sets.drop j) x))) ∧ Below wc.heap.size wc wr) (fun _ i _ => tn - (intOf i).toNat)
                        case atStart => exact ⟨0, _, by omega, rfl, rfl, by omega, by omega, HE2, Below.refl _ _⟩
                        case round =>
                          clear HE2
                          obtain ⟨j, x, hj, rfl, rfl, hx1, hx2, HE2, hbw2⟩ := hrel
                          have hzr2 := hbw2.size
                          by_cases hlt2 : j < tn
                          · have hlt2' : ((j : Int) < (tn : Int)) := by omega
                            obtain ⟨b2, off2, s, eA3, hbB2, hku2, ⟨c0, c1, ⟨so, sm, sO, sl2, sc2⟩, ⟨c2, c3, c4⟩, ⟨ds, hes⟩⟩⟩ := (Hrs.out.keep (w' := wr) (fun b o y h1 hy => SetAt.keep h1 hy (fun p hp => (hbw2.mono (by omega)).cell hp))).at_ (k := j) hlt2
                            simp only at eA3 c0 c1 c2 c3 c4 hes
                            subst eA3
                            obtain ⟨z, p, te⟩ := s
                            simp only at c0 c1 hes
                            have Hku2 := hide hku2
                            clear hku2
                            have hbA := (Below.refl wr.heap.size wr).alloc (Nat.le_refl _) (.cells #[.int .i64 z, .bool p, .int .i64 so, .int .i64 sm, .slice sO sl2 sc2] 111)
                            have Hes := hide (hes.below (hbA.mono (by omega)))
                            have HbA := hide (hbw2.trans (hbA.mono hzr2))
                            have hzA : wr.heap.size + 1 ≤ (wr.alloc (.cells #[.int .i64 z, .bool p, .int .i64 so, .int .i64 sm, .slice sO sl2 sc2] 111)).heap.size := by simp
                            obtain ⟨d0, d1, d2, d3, d4⟩ := box5_new wr z p so sm sO sl2 sc2
                            clear hes hbA hbw2
                            go_wp2_with fail
                            clear c0 c1 c2 c3 c4 d0 d1 d2 d3 d4
                            generalize wr.alloc (.cells #[.int .i64 z, .bool p, .int .i64 so, .int .i64 sm, .slice sO sl2 sc2] 111) = W1 at *
                            refine (heavy_any B ds so sm sO sl2 sc2 te W1 (by omega) Hes.out).mono ?_
                            rintro e wd ⟨rfl, hbd⟩
                            have Hbc2 := hide (HbA.out.trans (hbd.mono (by omega)))
                            obtain ⟨y1, y2⟩ := heavy_bd te
                            have HE3 : Hid (hvM m = k2 m (hvC (m.sys.drop (k + 1)) (hvS (cc.sets.drop (j + 1)) (x + heavyE te)))) := hide (by rw [HE2.out, hvS_on x Hku2.out])
                            clear hbd HbA Hes
                            generalize heavyE te = y at *
                            go_wp2_with fail
                            go_roundw
                            case rel => exact ⟨j + 1, x + y, by omega, by go_num, by go_num, by omega, by omega, HE3, Hbc2.out⟩
                            case measure => simp [intOf]; omega
                          · have hlt2' : ¬ ((j : Int) < (tn : Int)) := by omega
                            go_wp2_with fail
                            go_roundw
                            case rel => exact ⟨k + 1, x, by omega, by go_num, rfl, by omega, by omega, hide (by rw [HE2.out, hvS_end x (by rw [Htn.out]; omega)]), Hbc.out.trans (hbw2.mono (by omega))⟩
                            case measure => simp [intOf]; omega
                    · have hlt' : ¬ ((k : Int) < (sn : Int)) := by omega
                      go_wp2_with fail
                      go_roundw
                      case rel => exact ⟨x, rfl, by omega, .inr (.inr ⟨rfl, by omega, hide (by rw [HE.out, hvC_end x (by rw [HL.out.2.1]; show sn ≤ k; omega)]; rfl)⟩), hbw⟩
                      case measure => simp [intOf]
                · obtain ⟨w3, rfl⟩ : ∃ w3, w3 = wr := ⟨_, rfl⟩
                  have hbn := hbo
                  clear hbo
                  have hz3 := hbn.size
                  have Hb3 := hide (Hb2.out.trans (hbn.mono (by omega)))
                  have Hrm3 := hide (Hrm2.out.below (hbn.mono (by omega)))
                  have Hbx3 := hide (Hbx2.out.below hbn (by omega))
                  clear hbn Hb2 Hrm2 Hbx2
                  have r3 : w3.cell? ⟨w.heap.size, 9, none⟩ = some (.slice aA an ac) := Hbx3.out 9 _ rfl
                  have r4 : w3.cell? ⟨w.heap.size, 10, none⟩ = some (.slice nA nn nc) := Hbx3.out 10 _ rfl
                  have r5 : w3.cell? ⟨w.heap.size, 11, none⟩ = some (.slice pA pn pc) := Hbx3.out 11 _ rfl
                  go_wp2_with fail
                  clear r3 r4 r5
                  go_loopw [3, 100] (fun nv i wr => ∃ x : Int, nv = .int .i64 x ∧ 0 ≤ x ∧ ((i = .int .i64 0 ∧ x ≤ 418000 ∧ Hid (hvM m = k3 m x)) ∨ (i = .int .i64 1 ∧ x ≤ 426000 ∧ Hid (hvM m = hvE m.prio (hvE m.ens x))) ∨ (i = .int .i64 2 ∧ x ≤ 434000 ∧ Hid (hvM m = hvE m.prio x)) ∨ (i = .int .i64 3 ∧ x ≤ 442000 ∧ Hid (hvM m = x))) ∧ Below w3.heap.size w3 wr) (fun _ i _ => 3 - (intOf i).toNat)
                  case atStart => exact ⟨_, rfl, by omega, .inl ⟨rfl, by omega, HE⟩, Below.refl _ _⟩
                  case round =>
                    obtain ⟨x, rfl, hx1, hi, hbo⟩ := hrel
                    clear HE
                    rcases hi with ⟨rfl, hx2, HE⟩ | ⟨rfl, hx2, HE⟩ | ⟨rfl, hx2, HE⟩ | ⟨rfl, hx2, HE⟩
                    · have hix : ∀ w : World, (Instr.index 88 (.agg #[.slice aA an ac, .slice nA nn nc, .slice pA pn pc]) (.int .i64 0)).run Tryz.prog w = .ok (.slice aA an ac) w := by
                        intro w
                        kernel_rfl
                      obtain ⟨wo, rfl⟩ : ∃ wo, wo = wr := ⟨_, rfl⟩
                      go_wp2_with fail
                      clear hix
                      go_loopw [3, 105] (fun nv i wr => ∃ (k : Nat) (x : Int), k ≤ an ∧ i = .int .i64 k ∧ nv = .int .i64 x ∧ 0 ≤ x ∧ x ≤ 418000 + 1000 * (k : Int) ∧ Hid (hvM m = hvE m.prio (hvE m.ens (hvE (m.asm.drop k) x))) ∧ Below w3.heap.size w3 wr) (fun _ i _ => an - (intOf i).toNat)
                      case atStart => exact ⟨0, _, by omega, rfl, rfl, by omega, by omega, HE, hbo⟩
                      case round =>
                        clear HE
                        obtain ⟨k, x, hk, rfl, rfl, hx1, hx2, HE, hbw⟩ := hrel
                        have hzr := hbw.size
                        by_cases hlt : k < an
                        · have hlt' : ((k : Int) < (an : Int)) := by omega
                          obtain ⟨b, off, te, eA2, hbB, hku, ⟨⟨go, gn, gA, gl, gc⟩, ⟨c0, c1, c2⟩, ⟨dg, hex⟩⟩⟩ := ((Hrm3.out.2.2.2.2.2.2.1).keep (w' := wr) (fun b o y h1 hy => ExAt.keep h1 hy (fun p hp => (hbw.mono (by omega)).cell hp))).at_ (k := k) hlt
                          simp only at eA2 c0 c1 c2 hex
                          subst eA2
                          have Hku := hide hku
                          clear hku
                          have hbA := (Below.refl wr.heap.size wr).alloc (Nat.le_refl _) (.cells #[.int .i64 go, .int .i64 gn, .slice gA gl gc] 25)
                          have Hex := hide (hex.below (hbA.mono (by omega)))
                          have HbA := hide (hbw.trans (hbA.mono hzr))
                          have hzA : wr.heap.size + 1 ≤ (wr.alloc (.cells #[.int .i64 go, .int .i64 gn, .slice gA gl gc] 25)).heap.size := by simp
                          obtain ⟨f0, f1, f2⟩ := box_new wr go gn gA gl gc 25
                          clear hex hbA hbw
                          go_wp2_with fail
                          clear c0 c1 c2 f0 f1 f2
                          generalize wr.alloc (.cells #[.int .i64 go, .int .i64 gn, .slice gA gl gc] 25) = W1 at *
                          refine (heavy_any B dg go gn gA gl gc te W1 (by omega) Hex.out).mono ?_
                          rintro e wc ⟨rfl, hbc⟩
                          have Hbc := hide (HbA.out.trans (hbc.mono (by omega)))
                          obtain ⟨y1, y2⟩ := heavy_bd te
                          have HE3 : Hid (hvM m = hvE m.prio (hvE m.ens (hvE (m.asm.drop (k + 1)) (x + heavyE te)))) := hide (by rw [HE.out, hvE_on x Hku.out])
                          clear hbc HbA Hex
                          generalize heavyE te = y at *
                          go_wp2_with fail
                          go_roundw
                          case rel => exact ⟨k + 1, x + y, by omega, by go_num, by go_num, by omega, by omega, HE3, Hbc.out⟩
                          case measure => simp [intOf]; omega
                        · have hlt' : ¬ ((k : Int) < (an : Int)) := by omega
                          go_wp2_with fail
                          go_roundw
                          case rel => exact ⟨x, rfl, by omega, .inr (.inl ⟨rfl, by omega, hide (by rw [HE.out, hvE_end x (by rw [HL.out.2.2.1]; show an ≤ k; omega)])⟩), hbw⟩
                          case measure => simp [intOf]
                    · have hix : ∀ w : World, (Instr.index 88 (.agg #[.slice aA an ac, .slice nA nn nc, .slice pA pn pc]) (.int .i64 1)).run Tryz.prog w = .ok (.slice nA nn nc) w := by
                        intro w
                        kernel_rfl
                      obtain ⟨wo, rfl⟩ : ∃ wo, wo = wr := ⟨_, rfl⟩
                      go_wp2_with fail
                      clear hix
                      go_loopw [3, 105] (fun nv i wr => ∃ (k : Nat) (x : Int), k ≤ nn ∧ i = .int .i64 k ∧ nv = .int .i64 x ∧ 0 ≤ x ∧ x ≤ 426000 + 1000 * (k : Int) ∧ Hid (hvM m = hvE m.prio (hvE (m.ens.drop k) x)) ∧ Below w3.heap.size w3 wr) (fun _ i _ => nn - (intOf i).toNat)
                      case atStart => exact ⟨0, _, by omega, rfl, rfl, by omega, by omega, HE, hbo⟩
                      case round =>
                        clear HE
                        obtain ⟨k, x, hk, rfl, rfl, hx1, hx2, HE, hbw⟩ := hrel
                        have hzr := hbw.size
                        by_cases hlt : k < nn
                        · have hlt' : ((k : Int) < (nn : Int)) := by omega
                          obtain ⟨b, off, te, eA2, hbB, hku, ⟨⟨go, gn, gA, gl, gc⟩, ⟨c0, c1, c2⟩, ⟨dg, hex⟩⟩⟩ := ((Hrm3.out.2.2.2.2.2.2.2.1).keep (w' := wr) (fun b o y h1 hy => ExAt.keep h1 hy (fun p hp => (hbw.mono (by omega)).cell hp))).at_ (k := k) hlt
                          simp only at eA2 c0 c1 c2 hex
                          subst eA2
                          have Hku := hide hku
                          clear hku
                          have hbA := (Below.refl wr.heap.size wr).alloc (Nat.le_refl _) (.cells #[.int .i64 go, .int .i64 gn, .slice gA gl gc] 25)
                          have Hex := hide (hex.below (hbA.mono (by omega)))
                          have HbA := hide (hbw.trans (hbA.mono hzr))
                          have hzA : wr.heap.size + 1 ≤ (wr.alloc (.cells #[.int .i64 go, .int .i64 gn, .slice gA gl gc] 25)).heap.size := by simp
                          obtain ⟨f0, f1, f2⟩ := box_new wr go gn gA gl gc 25
                          clear hex hbA hbw
                          go_wp2_with fail
                          clear c0 c1 c2 f0 f1 f2
                          generalize wr.alloc (.cells #[.int .i64 go, .int .i64 gn, .slice gA gl gc] 25) = W1 at *
                          refine (heavy_any B dg go gn gA gl gc te W1 (by omega) Hex.out).mono ?_
                          rintro e wc ⟨rfl, hbc⟩
                          have Hbc := hide (HbA.out.trans (hbc.mono (by omega)))
                          obtain ⟨y1, y2⟩ := heavy_bd te
                          have HE3 : Hid (hvM m = hvE m.prio (hvE (m.ens.drop (k + 1)) (x + heavyE te))) := hide (by rw [HE.out, hvE_on x Hku.out])
                          clear hbc HbA Hex
                          generalize heavyE te = y at *
                          go_wp2_with fail
                          go_roundw
                          case rel => exact ⟨k + 1, x + y, by omega, by go_num, by go_num, by omega, by omega, HE3, Hbc.out⟩
                          case measure => simp [intOf]; omega
                        · have hlt' : ¬ ((k : Int) < (nn : Int)) := by omega
                          go_wp2_with fail
                          go_roundw
                          case rel => exact ⟨x, rfl, by omega, .inr (.inr (.inl ⟨rfl, by omega, hide (by rw [HE.out, hvE_end x (by rw [HL.out.2.2.2.1]; show nn ≤ k; omega)])⟩)), hbw⟩
                          case measure => simp [intOf]
                    · have hix : ∀ w : World, (Instr.index 88 (.agg #[.slice aA an ac, .slice nA nn nc, .slice pA pn pc]) (.int .i64 2)).run Tryz.prog w = .ok (.slice pA pn pc) w := by
                        intro w
                        kernel_rfl
                      obtain ⟨wo, rfl⟩ : ∃ wo, wo = wr := ⟨_, rfl⟩
                      go_wp2_with fail
                      clear hix
                      go_loopw [3, 105] (fun nv i wr => ∃ (k : Nat) (x : Int), k ≤ pn ∧ i = .int .i64 k ∧ nv = .int .i64 x ∧ 0 ≤ x ∧ x ≤ 434000 + 1000 * (k : Int) ∧ Hid (hvM m = (hvE (m.prio.drop k) x)) ∧ Below w3.heap.size w3 wr) (fun _ i _ => pn - (intOf i).toNat)
                      case atStart => exact ⟨0, _, by omega, rfl, rfl, by omega, by omega, HE, hbo⟩
                      case round =>
                        clear HE
                        obtain ⟨k, x, hk, rfl, rfl, hx1, hx2, HE, hbw⟩ := hrel
                        have hzr := hbw.size
                        by_cases hlt : k < pn
                        · have hlt' : ((k : Int) < (pn : Int)) := by omega
                          obtain ⟨b, off, te, eA2, hbB, hku, ⟨⟨go, gn, gA, gl, gc⟩, ⟨c0, c1, c2⟩, ⟨dg, hex⟩⟩⟩ := ((Hrm3.out.2.2.2.2.2.2.2.2).keep (w' := wr) (fun b o y h1 hy => ExAt.keep h1 hy (fun p hp => (hbw.mono (by omega)).cell hp))).at_ (k := k) hlt
                          simp only at eA2 c0 c1 c2 hex
                          subst eA2
                          have Hku := hide hku
                          clear hku
                          have hbA := (Below.refl wr.heap.size wr).alloc (Nat.le_refl _) (.cells #[.int .i64 go, .int .i64 gn, .slice gA gl gc] 25)
                          have Hex := hide (hex.below (hbA.mono (by omega)))
                          have HbA := hide (hbw.trans (hbA.mono hzr))
                          have hzA : wr.heap.size + 1 ≤ (wr.alloc (.cells #[.int .i64 go, .int .i64 gn, .slice gA gl gc] 25)).heap.size := by simp
                          obtain ⟨f0, f1, f2⟩ := box_new wr go gn gA gl gc 25
                          clear hex hbA hbw
                          go_wp2_with fail
                          clear c0 c1 c2 f0 f1 f2
                          generalize wr.alloc (.cells #[.int .i64 go, .int .i64 gn, .slice gA gl gc] 25) = W1 at *
                          refine (heavy_any B dg go gn gA gl gc te W1 (by omega) Hex.out).mono ?_
                          rintro e wc ⟨rfl, hbc⟩
                          have Hbc := hide (HbA.out.trans (hbc.mono (by omega)))
                          obtain ⟨y1, y2⟩ := heavy_bd te
                          have HE3 : Hid (hvM m = (hvE (m.prio.drop (k + 1)) (x + heavyE te))) := hide (by rw [HE.out, hvE_on x Hku.out])
                          clear hbc HbA Hex
                          generalize heavyE te = y at *
                          go_wp2_with fail
                          go_roundw
                          case rel => exact ⟨k + 1, x + y, by omega, by go_num, by go_num, by omega, by omega, HE3, Hbc.out⟩
                          case measure => simp [intOf]; omega
                        · have hlt' : ¬ ((k : Int) < (pn : Int)) := by omega
                          go_wp2_with fail
                          go_roundw
                          case rel => exact ⟨x, rfl, by omega, .inr (.inr (.inr ⟨rfl, by omega, hide (by rw [HE.out, hvE_end x (by rw [HL.out.2.2.2.2]; show pn ≤ k; omega)])⟩)), hbw⟩
                          case measure => simp [intOf]
                    · have Hbf := hide (Hb3.out.trans (hbo.mono (by have := Hb3.out.size; omega)))
                      go_wp2_with fail
                      go_ret
                      exact ⟨ret_int HE.out.symm, Hbf.out⟩
def HvyPost (w : World) (e : Ending) (w' : World) : Prop := ∃ x : Int, e = .returned (.int .i64 x) ∧ 0 ≤ x ∧ x ≤ 1000000 ∧ Below w.heap.size w w'
end Go.Proofs.YtbppdalfcldodaaGreat
namespace Go.Proofs.YtbppdalfcldodaaGreat
open Go.RowKit Ex
set_option linter.unusedSimpArgs false
set_option linter.unusedVariables false

theorem yes_any (w : World) : Calls Tryz.prog 73 #[] w fun e w' => e = .returned (.agg #[.int .i64 2, .int .i64 1, .slice none 0 0]) ∧ w' = w.alloc (.cells #[.int .i64 2, .int .i64 1, .slice none 0 0] 25) := by
  go_enter Tryz.func73, Tryz.ntmps73
  go_wp2_with fail
  refine bodyPost_ret (v := .agg #[.int .i64 2, .int .i64 1, .slice none 0 0]) (by simp [results, Tryz.results73, go_sem]) rfl ?_
  exact ⟨rfl, rfl⟩
def varsC : Array Value := #[.string ⟨#[120]⟩, .bool true, .int .i64 1, .int .i64 0, .int .i64 0, .string ⟨#[121]⟩, .bool false, .int .i64 1, .int .i64 0, .int .i64 0]
def set1C : Array Value := #[.int .i64 0, .bool true, .int .i64 0, .int .i64 0, .slice none 0 0]
def set2C : Array Value := #[.int .i64 1, .bool false, .int .i64 4, .int .i64 0, .slice none 0 0]
def cmdC (go gn : Int) (n : Nat) : Array Value := #[.int .i64 go, .int .i64 gn, .slice none 0 0, .slice (some ⟨n, 0, none⟩) 1 1]
def yesC : Array Value := #[.int .i64 2, .int .i64 1, .slice none 0 0]
def smallC (N : Nat) : M8 := ⟨⟨some ⟨N + 1, 0, none⟩, 2, 2⟩, ⟨2, 1, none, 0, 0⟩, ⟨2, 1, none, 0, 0⟩, ⟨some ⟨N + 6, 0, none⟩, 1, 1⟩, ⟨some ⟨N + 9, 0, none⟩, 1, 1⟩, ⟨none, 0, 0⟩, ⟨none, 0, 0⟩, ⟨none, 0, 0⟩⟩
def smallW (w : World) : World := (((((((((w.alloc (.cells (smallC w.heap.size).cells 28)).alloc (.cells varsC 103)).alloc (.cells yesC 25)).alloc (.cells yesC 25)).alloc (.cells yesC 25)).alloc (.cells set1C 111)).alloc (.cells (cmdC 2 1 (w.heap.size + 5)) 71)).alloc (.cells yesC 25)).alloc (.cells set2C 111)).alloc (.cells (cmdC 2 1 (w.heap.size + 8)) 71)
set_option maxRecDepth 100000 in
set_option maxHeartbeats 4000000 in
theorem small_any (w : World) : Calls Tryz.prog 37 #[] w fun e w' => e = .returned (.agg (smallC w.heap.size).cells) ∧ w' = smallW w := by
  go_enter Tryz.func37, Tryz.ntmps37
  go_wp2_with fail
  refine (yes_any _).mono ?_
  rintro e w1 ⟨rfl, rfl⟩
  go_wp2_with fail
  refine (yes_any _).mono ?_
  rintro e w1 ⟨rfl, rfl⟩
  go_wp2_with fail
  refine (yes_any _).mono ?_
  rintro e w1 ⟨rfl, rfl⟩
  go_wp2_with fail
  refine (yes_any _).mono ?_
  rintro e w1 ⟨rfl, rfl⟩
  go_wp2_with fail
  refine bodyPost_ret (v := .agg (smallC w.heap.size).cells) ?_ rfl ⟨rfl, rfl⟩
  simp [results, Tryz.results37, go_sem, smallC, M8.cells, SL.v]
theorem small_size (w : World) : (smallW w).heap.size = w.heap.size + 10 := by simp [smallW]
theorem small_below (w : World) : Below w.heap.size w (smallW w) := by
  unfold smallW
  refine Below.alloc (Below.alloc (Below.alloc (Below.alloc (Below.alloc (Below.alloc (Below.alloc (Below.alloc (Below.alloc (Below.alloc (Below.refl _ _) ?_ _) ?_ _) ?_ _) ?_ _) ?_ _) ?_ _) ?_ _) ?_ _) ?_ _) ?_ _ <;> simp <;> omega
theorem up_at {w : World} {o c : Obj} {b : Nat} (h : w.heap[b]? = some c) : (w.alloc o).heap[b]? = some c :=
  (Below.heap_alloc w o b (Array.getElem?_eq_some_iff.1 h).1).trans h
theorem new_at {w : World} {o : Obj} {b : Nat} (h : w.heap.size = b) : (w.alloc o).heap[b]? = some o := by subst h; exact heap_alloc_new w o
theorem small_blocks (w : World) : (smallW w).heap[w.heap.size + 1]? = some (.cells varsC 103 (0, 0)) ∧ (smallW w).heap[w.heap.size + 5]? = some (.cells set1C 111 (0, 0)) ∧ (smallW w).heap[w.heap.size + 6]? = some (.cells (cmdC 2 1 (w.heap.size + 5)) 71 (0, 0)) ∧ (smallW w).heap[w.heap.size + 8]? = some (.cells set2C 111 (0, 0)) ∧ (smallW w).heap[w.heap.size + 9]? = some (.cells (cmdC 2 1 (w.heap.size + 8)) 71 (0, 0)) := by
  unfold smallW
  refine ⟨up_at (up_at (up_at (up_at (up_at (up_at (up_at (up_at (new_at ?_)))))))), up_at (up_at (up_at (up_at (new_at ?_)))), up_at (up_at (up_at (new_at ?_))), up_at (new_at ?_), new_at ?_⟩ <;> simp
/- the module, as data; its environment's guard may be another -/
def smallM (g : T) : MT := ⟨[⟨⟨#[120]⟩, true, 1, 0, 0⟩, ⟨⟨#[121]⟩, false, 1, 0, 0⟩], .mk 2 1 [], .mk 2 1 [], [⟨g, [⟨0, true, .mk 0 0 []⟩]⟩], [⟨.mk 2 1 [], [⟨1, false, .mk 4 0 []⟩]⟩], [], [], []⟩
theorem small_ok : modE (smallM (.mk 2 1 [])) = 0 := by decide +kernel
def BlocksAre (w : World) (N : Nat) (go gn : Int) : Prop := w.heap[N + 1]? = some (.cells varsC 103 (0, 0)) ∧ w.heap[N + 5]? = some (.cells set1C 111 (0, 0)) ∧ w.heap[N + 6]? = some (.cells (cmdC go gn (N + 5)) 71 (0, 0)) ∧ w.heap[N + 8]? = some (.cells set2C 111 (0, 0)) ∧ w.heap[N + 9]? = some (.cells (cmdC 2 1 (N + 8)) 71 (0, 0))
theorem leaf_ex (w : World) (B : Nat) (op n : Int) : EX w B ⟨op, n, none, 0, 0⟩ (.mk op n []) := ⟨1, RE.leaf w B 0 op n⟩
theorem blk {w : World} {b i : Nat} {cs : Array Value} {t : TypeId} {v : Value} (h : w.heap[b]? = some (.cells cs t (0, 0))) (hv : cs[i]? = some v) : w.cell? ⟨b, i, none⟩ = some v := by
  rw [cell_of_row w b i cs t (0, 0) h]; exact hv
theorem small_rm {w : World} {N : Nat} {go gn : Int} (h : BlocksAre w N go gn) : RM w (N + 10) (smallC N) (smallM (.mk go gn [])) := by
  obtain ⟨h1, h5, h6, h8, h9⟩ := h
  have rows1 : ∀ {α : Type} (P : World → Nat → Nat → Nat → α → Prop) (sz b : Nat) (y : α), b < N + 10 → P w (N + 10) b 0 y → Rows P sz w (N + 10) ⟨some ⟨b, 0, none⟩, 1, 1⟩ [y] := fun P sz b y hb hy => ⟨rfl, Nat.le_refl _, by show 1 ≤ maxLen; unfold maxLen; omega, fun _ => ⟨b, 0, rfl, hb, fun k x hx => by
    match k, hx with
    | 0, hx => simp at hx; subst hx; simpa using hy
    | k + 1, hx => simp at hx⟩, fun h => by simp at h⟩
  have rows0 : ∀ {α : Type} (P : World → Nat → Nat → Nat → α → Prop) (sz : Nat), Rows P sz w (N + 10) ⟨none, 0, 0⟩ [] := fun P sz => ⟨rfl, Nat.le_refl _, by show 0 ≤ maxLen; omega, fun h => absurd h (by show ¬ 0 < 0; omega), fun _ => rfl⟩
  have e1 : SetAt w (N + 10) (N + 5) 0 ⟨0, true, .mk 0 0 []⟩ := ⟨blk h5 rfl, blk h5 rfl, ⟨0, 0, none, 0, 0⟩, ⟨blk h5 rfl, blk h5 rfl, blk h5 rfl⟩, leaf_ex _ _ _ _⟩
  have e2 : SetAt w (N + 10) (N + 8) 0 ⟨1, false, .mk 4 0 []⟩ := ⟨blk h8 rfl, blk h8 rfl, ⟨4, 0, none, 0, 0⟩, ⟨blk h8 rfl, blk h8 rfl, blk h8 rfl⟩, leaf_ex _ _ _ _⟩
  refine ⟨⟨by show 2 ≤ maxLen; unfold maxLen; omega, Nat.le_refl _, by show 2 ≤ maxLen; unfold maxLen; omega, ?_⟩, ⟨rfl, fun _ => ⟨N + 1, 0, rfl, by omega, fun k v hv => ?_⟩⟩, leaf_ex _ _ _ _, leaf_ex _ _ _ _,
    rows1 CmdAt 4 (N + 6) _ (by omega) ⟨⟨⟨go, gn, none, 0, 0⟩, ⟨blk h6 rfl, blk h6 rfl, blk h6 rfl⟩, leaf_ex _ _ _ _⟩, ⟨some ⟨N + 5, 0, none⟩, 1, 1⟩, blk h6 rfl, rows1 SetAt 5 (N + 5) _ (by omega) e1⟩,
    rows1 CmdAt 4 (N + 9) _ (by omega) ⟨⟨⟨2, 1, none, 0, 0⟩, ⟨blk h9 rfl, blk h9 rfl, blk h9 rfl⟩, leaf_ex _ _ _ _⟩, ⟨some ⟨N + 8, 0, none⟩, 1, 1⟩, blk h9 rfl, rows1 SetAt 5 (N + 8) _ (by omega) e2⟩,
    rows0 _ _, rows0 _ _, rows0 _ _⟩
  · intro v hv
    simp [smallM] at hv
    rcases hv with rfl | rfl <;> decide
  · match k, hv with
    | 0, hv => simp [smallM] at hv; subst hv; exact ⟨blk h1 rfl, blk h1 rfl, blk h1 rfl, blk h1 rfl, blk h1 rfl⟩
    | 1, hv => simp [smallM] at hv; subst hv; exact ⟨blk h1 rfl, blk h1 rfl, blk h1 rfl, blk h1 rfl, blk h1 rfl⟩
    | k + 2, hv => simp [smallM] at hv
end Go.Proofs.YtbppdalfcldodaaGreat
set_option maxRecDepth 100000
namespace Go.Proofs.YtbppdalfcldodaaGreat
open Go.RowKit Ex
set_option linter.unusedSimpArgs false
set_option linter.unusedVariables false

def mV (x : M8) : Nat → Value := fun i => x.cells.getD i undef
theorem mV_new (w : World) (x : M8) : (w.alloc (.cells x.cells 28)).rowIs w.heap.size 28 12 (mV x) :=
  World.rowIs_alloc w _ 28 _ (fun i hi => by
    have h : i < x.cells.size := by simpa [M8.cells] using hi
    unfold mV
    rw [Array.getElem?_eq_getElem h]
    simp [Array.getD, h])
theorem box12 {w : World} {b : Nat} {x : M8} (h : BoxM w b x) : w.cell? ⟨b, 0, none⟩ = some x.vars.v ∧ w.cell? ⟨b, 1, none⟩ = some (.int .i64 x.ie.op) ∧ w.cell? ⟨b, 2, none⟩ = some (.int .i64 x.ie.n) ∧ w.cell? ⟨b, 3, none⟩ = some (.slice x.ie.A x.ie.len x.ie.cap) ∧ w.cell? ⟨b, 4, none⟩ = some (.int .i64 x.is.op) ∧ w.cell? ⟨b, 5, none⟩ = some (.int .i64 x.is.n) ∧ w.cell? ⟨b, 6, none⟩ = some (.slice x.is.A x.is.len x.is.cap) ∧ w.cell? ⟨b, 7, none⟩ = some x.env.v ∧ w.cell? ⟨b, 8, none⟩ = some x.sys.v ∧ w.cell? ⟨b, 9, none⟩ = some x.asm.v ∧ w.cell? ⟨b, 10, none⟩ = some x.ens.v ∧ w.cell? ⟨b, 11, none⟩ = some x.prio.v :=
  ⟨h 0 _ rfl, h 1 _ rfl, h 2 _ rfl, h 3 _ rfl, h 4 _ rfl, h 5 _ rfl, h 6 _ rfl, h 7 _ rfl, h 8 _ rfl, h 9 _ rfl, h 10 _ rfl, h 11 _ rfl⟩
/- a frame in which the slots of a list hold what v says -/
def sel (σ : List Nat) (a : Act) (v : Nat → Value) : Act := ⟨a.tmps.mapIdx (fun i x => if i ∈ σ then v i else x), a.defers⟩
section
variable {a : Act} {σ : List Nat} {v : Nat → Value}
theorem act_eq (s u : Array Value) (df : List Deferred) (e : s = u) : (⟨s, df⟩ : Act) = ⟨u, df⟩ := by rw [e]
theorem sel_put {j : Nat} (x : Value) (hj : j ∈ σ) : (sel σ a v).put (some j) x = sel σ a (fun k => if k = j then x else v k) := by
  unfold sel
  show (⟨_, _⟩ : Act) = _
  refine act_eq _ _ _ (Array.ext_getElem? fun i => ?_)
  rw [Array.getElem?_setIfInBounds, Array.getElem?_mapIdx, Array.getElem?_mapIdx]
  by_cases hi : i < a.tmps.size
  · by_cases h : j = i
    · subst h; simp [hi, hj]
    · rw [if_neg h]
      simp [hi]
      by_cases h3 : i ∈ σ
      · rw [if_pos h3, if_pos h3, if_neg (fun e => h e.symm)]
      · rw [if_neg h3, if_neg h3]
  · simp [hi]
    intro e; omega
theorem sel_in {j : Nat} (hj : j ∈ σ) (hs : j < a.tmps.size) : (sel σ a v).eval (.tmp j) = v j := by
  show (sel σ a v).tmps.getD j undef = v j
  unfold sel
  simp [Array.getD, hs, hj]
theorem sel_out {t : Nat} (h : t ∉ σ) : (sel σ a v).eval (.tmp t) = a.eval (.tmp t) := by
  show (sel σ a v).tmps.getD t undef = a.tmps.getD t undef
  unfold sel
  by_cases hs : t < a.tmps.size
  · simp [Array.getD, hs, h]
  · simp [Array.getD, hs]
theorem sel_self (a : Act) (σ : List Nat) : sel σ a (fun j => a.tmps.getD j undef) = a := by
  obtain ⟨tm, df⟩ := a
  unfold sel
  refine act_eq _ _ _ ?_
  apply Array.ext
  · simp
  · intro i h1 h2
    simp
    intro _
    simp [Array.getD, h2]
theorem sel_cons (s : Nat) : sel (s :: σ) a v = (sel σ a v).put (some s) (v s) := by
  unfold sel
  show _ = (⟨_, _⟩ : Act)
  refine act_eq _ _ _ (Array.ext_getElem? fun i => ?_)
  rw [Array.getElem?_setIfInBounds, Array.getElem?_mapIdx, Array.getElem?_mapIdx]
  by_cases hi : i < a.tmps.size
  · by_cases h : s = i
    · subst h; simp [hi]
    · rw [if_neg h]
      have h' : ¬ i = s := fun e => h e.symm
      simp [hi, h']
  · simp [hi]
    intro e; omega
theorem sel_nil : sel [] a v = a := by
  obtain ⟨tm, df⟩ := a
  unfold sel
  refine act_eq _ _ _ ?_
  apply Array.ext
  · simp
  · intro i h1 h2; simp
end
theorem ready_lt {md : Region.Mode} {ops : Array Oper} {listed : Array Bool} {i : Nat} (h : i ∈ Region.ready md ops listed) (hs : listed.size = ops.size) : i < listed.size ∧ listed[i]? = some false := by
  obtain ⟨h1, o, ho, _⟩ := mem_ready.1 h
  have hi : i < ops.size := (Array.getElem?_eq_some_iff.1 ho).1
  have hi2 : i < listed.size := by omega
  refine ⟨hi2, ?_⟩
  simp [Array.getD, hi2] at h1
  simp [hi2, h1]
theorem wpAny_inv {P : Program} {md : Region.Mode} {ops : Array Oper} {Q : Exit → Act → World → Prop} {I : Array Bool → Act → World → Prop}
    (hstep : ∀ listed a w i, listed.size = ops.size → I listed a w → i ∈ Region.ready md ops listed → wpOp P ops Q i (fun a' w' => I (listed.setIfInBounds i true) a' w') a w)
    (hend : ∀ listed a w, listed.size = ops.size → Region.ready md ops listed = [] → I listed a w → Q .normal a w) :
    ∀ fuel listed a w, listed.size = ops.size → listed.countP (· == false) ≤ fuel → I listed a w → wpAny P md ops Q fuel listed a w := by
  intro fuel
  induction fuel with
  | zero =>
    intro listed a w hs hc hI
    have h0 : Region.ready md ops listed = [] := by
      cases hr : Region.ready md ops listed with
      | nil => rfl
      | cons x xs =>
        obtain ⟨h1, h2⟩ := ready_lt (i := x) (by rw [hr]; simp) hs
        have h3 : 0 < listed.countP (· == false) := by
          rw [Array.countP_pos_iff]
          obtain ⟨h4, h5⟩ := Array.getElem?_eq_some_iff.1 h2
          exact ⟨_, Array.getElem_mem h4, by simp [h5]⟩
        omega
    exact ⟨h0, hend listed a w hs h0 hI⟩
  | succ fuel ih =>
    intro listed a w hs hc hI
    refine ⟨fun h0 => hend listed a w hs h0 hI, fun i hi => wpOp_mono (fun a' w' h' => ih _ a' w' (by simpa using hs) ?_ h') (hstep listed a w i hs hI hi)⟩
    obtain ⟨h1, h2⟩ := ready_lt hi hs
    obtain ⟨h4, h5⟩ := Array.getElem?_eq_some_iff.1 h2
    have := Array.countP_set (p := (· == false)) (xs := listed) (i := i) (a := true) h4
    rw [h5] at this
    have e : listed.setIfInBounds i true = listed.set i true h4 := by simp [Array.setIfInBounds, h4]
    rw [e, this]
    have h6 : 0 < listed.countP (· == false) := by
      rw [Array.countP_pos_iff]
      exact ⟨_, Array.getElem_mem h4, by simp [h5]⟩
    rw [if_pos (by rfl), if_neg (by simp)]
    omega
theorem wp_val {P : Program} {o : Oper} {a : Act} {w w' : World} {v : Value} {K : Act → World → Prop} {Q : Exit → Act → World → Prop} (h : (execOp a.eval o).run P w = .ok (.value v) w') (hK : K (a.put o.dst v) w') : Oper.wp P o a w K Q := by
  unfold Oper.wp
  rw [h]
  exact hK
section
variable {a : Act} {w : World} {K : Act → World → Prop} {Q : Exit → Act → World → Prop} {d ty : Nat} {pos : String} {af : Array Edge}
theorem st_loadM {t b : Nat} {x : M8} (he : a.eval (.tmp t) = .pointer (some ⟨b, 0, none⟩)) (hc : BoxM w b x)
    (hK : K (a.put (some d) (.agg x.cells)) w) : Oper.wp Tryz.prog ⟨some d, .load 28 (.tmp t), ty, pos, af, none⟩ a w K Q := by
  obtain ⟨c0, c1, c2, c3, c4, c5, c6, c7, c8, c9, c10, c11⟩ := box12 hc
  obtain ⟨⟨vA, vn, vc⟩, ⟨io, im, iA, il, ic⟩, ⟨jo, jm, jA, jl, jc⟩, ⟨eA, en, ec⟩, ⟨sA, sn, sc⟩, ⟨aA, an, ac⟩, ⟨nA, nn, nc⟩, ⟨pA, pn, pc⟩⟩ := x
  simp only [M8.cells, SL.v] at *
  refine wp_val ?_ hK
  simp only [execOp, he]
  go_simp
def zeroM : M8 := ⟨⟨none, 0, 0⟩, ⟨0, 0, none, 0, 0⟩, ⟨0, 0, none, 0, 0⟩, ⟨none, 0, 0⟩, ⟨none, 0, 0⟩, ⟨none, 0, 0⟩, ⟨none, 0, 0⟩, ⟨none, 0, 0⟩⟩
theorem st_allocM (hK : K (a.put (some d) (.pointer (some ⟨w.heap.size, 0, none⟩))) (w.alloc (.cells zeroM.cells 28))) : Oper.wp Tryz.prog ⟨some d, .alloc 28, ty, pos, af, none⟩ a w K Q := by
  refine wp_val ?_ hK
  simp only [zeroM, M8.cells, SL.v]
  go_simp
theorem st_storeM {t u b : Nat} {x : M8} {f : Nat → Value} (he : a.eval (.tmp t) = .pointer (some ⟨b, 0, none⟩)) (hx : a.eval (.tmp u) = .agg x.cells) (hr : w.rowIs b 28 12 f)
    (hK : ∀ w' : World, w'.rowIs b 28 12 (mV x) → w'.heap.size = w.heap.size → (∀ c, c ≠ b → w'.heap[c]? = w.heap[c]?) → (∀ B, B ≤ b → Below B w w') → K a w') : Oper.wp Tryz.prog ⟨none, .store 28 (.tmp t) (.tmp u), ty, pos, af, none⟩ a w K Q := by
  have c0 := hr.cell (i := 0) (by omega)
  have c1 := hr.cell (i := 1) (by omega)
  have c2 := hr.cell (i := 2) (by omega)
  have c3 := hr.cell (i := 3) (by omega)
  have c4 := hr.cell (i := 4) (by omega)
  have c5 := hr.cell (i := 5) (by omega)
  have c6 := hr.cell (i := 6) (by omega)
  have c7 := hr.cell (i := 7) (by omega)
  have c8 := hr.cell (i := 8) (by omega)
  have c9 := hr.cell (i := 9) (by omega)
  have c10 := hr.cell (i := 10) (by omega)
  have c11 := hr.cell (i := 11) (by omega)
  have z0 := hr.frozen 0
  have z1 := hr.frozen 1
  have z2 := hr.frozen 2
  have z3 := hr.frozen 3
  have z4 := hr.frozen 4
  have z5 := hr.frozen 5
  have z6 := hr.frozen 6
  have z7 := hr.frozen 7
  have z8 := hr.frozen 8
  have z9 := hr.frozen 9
  have z10 := hr.frozen 10
  have z11 := hr.frozen 11
  obtain ⟨⟨vA, vn, vc⟩, ⟨io, im, iA, il, ic⟩, ⟨jo, jm, jA, jl, jc⟩, ⟨eA, en, ec⟩, ⟨sA, sn, sc⟩, ⟨aA, an, ac⟩, ⟨nA, nn, nc⟩, ⟨pA, pn, pc⟩⟩ := x
  have h2 : a.tmps[u]?.getD undef = .agg #[.slice vA vn vc, .int .i64 io, .int .i64 im, .slice iA il ic, .int .i64 jo, .int .i64 jm, .slice jA jl jc, .slice eA en ec, .slice sA sn sc, .slice aA an ac, .slice nA nn nc, .slice pA pn pc] := by simpa [Act.eval, M8.cells, SL.v] using hx
  have h1 : a.tmps[t]?.getD undef = .pointer (some ⟨b, 0, none⟩) := by simpa [Act.eval] using he
  have hK2 := hK ((((((((((((w.setCell ⟨b, 0, none⟩ (.slice vA vn vc)).setCell ⟨b, 1, none⟩ (.int .i64 io)).setCell ⟨b, 2, none⟩ (.int .i64 im)).setCell ⟨b, 3, none⟩ (.slice iA il ic)).setCell ⟨b, 4, none⟩ (.int .i64 jo)).setCell ⟨b, 5, none⟩ (.int .i64 jm)).setCell ⟨b, 6, none⟩ (.slice jA jl jc)).setCell ⟨b, 7, none⟩ (.slice eA en ec)).setCell ⟨b, 8, none⟩ (.slice sA sn sc)).setCell ⟨b, 9, none⟩ (.slice aA an ac)).setCell ⟨b, 10, none⟩ (.slice nA nn nc)).setCell ⟨b, 11, none⟩ (.slice pA pn pc))
    ((((((((((((((hr.set 0 _).set 1 _).set 2 _).set 3 _).set 4 _).set 5 _).set 6 _).set 7 _).set 8 _).set 9 _).set 10 _).set 11 _)).congr (fun i hi => by
      have h : i = 0 ∨ i = 1 ∨ i = 2 ∨ i = 3 ∨ i = 4 ∨ i = 5 ∨ i = 6 ∨ i = 7 ∨ i = 8 ∨ i = 9 ∨ i = 10 ∨ i = 11 := by omega
      rcases h with rfl | rfl | rfl | rfl | rfl | rfl | rfl | rfl | rfl | rfl | rfl | rfl <;> rfl))
    (by simp [World.setCell])
    (fun c hc => by
      have hq : ∀ (v : World) (i : Nat) (u : Value), (v.setCell ⟨b, i, none⟩ u).heap[c]? = v.heap[c]? := fun v i u => Below.heap_setCell _ _ _ _ (by exact hc)
      rw [hq, hq, hq, hq, hq, hq, hq, hq, hq, hq, hq, hq])
    (fun B hB => by
      have hq : ∀ (v : World) (i : Nat) (u : Value), Below B w v → Below B w (v.setCell ⟨b, i, none⟩ u) := fun v i u h => h.setCell (by exact hB) _
      exact hq _ _ _ (hq _ _ _ (hq _ _ _ (hq _ _ _ (hq _ _ _ (hq _ _ _ (hq _ _ _ (hq _ _ _ (hq _ _ _ (hq _ _ _ (hq _ _ _ (hq _ _ _ (Below.refl _ _)))))))))))))
  clear hK hr he hx
  unfold Oper.wp
  go_simp
  exact hK2
end
theorem lst_set {l : Array Bool} {i k : Nat} (h : (l.setIfInBounds i true).getD k false = true) : k = i ∨ l.getD k false = true := by
  by_cases e : k = i
  · exact .inl e
  · right
    by_cases hk : k < l.size
    · have e' : ¬ i = k := fun h => e h.symm
      simp [Array.getD, hk, Array.getElem_setIfInBounds, e'] at h ⊢
      exact h
    · simp [Array.getD, hk] at h
theorem lst_mono {l : Array Bool} {i k : Nat} (h : l.getD k false = true) : (l.setIfInBounds i true).getD k false = true := by
  by_cases hk : k < l.size
  · by_cases e : i = k
    · simp [Array.getD, hk, Array.getElem_setIfInBounds, e]
    · simp [Array.getD, hk, Array.getElem_setIfInBounds, e] at h ⊢
      exact h
  · simp [Array.getD, hk] at h
theorem ready_allB {md : Region.Mode} {ops : Array Oper} {listed : Array Bool} (hac : ∀ (j : Nat) (o : Oper), ops[j]? = some o → ∀ e ∈ o.after, Region.binds md e = true → e.on < j) (hs : listed.size = ops.size) (h0 : Region.ready md ops listed = []) : ∀ j, j < ops.size → listed.getD j false = true := by
  intro j
  induction j using Nat.strongRecOn with
  | _ j ih =>
    intro hj
    have hj2 : j < listed.size := by omega
    cases hl : listed[j] with
    | true => simp [Array.getD, hj2, hl]
    | false =>
      exfalso
      have : j ∈ Region.ready md ops listed := mem_ready.2 ⟨by simp [Array.getD, hj2, hl], ops[j], Array.getElem?_eq_getElem hj, fun e he hb => ih e.on (hac j _ (Array.getElem?_eq_getElem hj) e he hb) (by have := hac j _ (Array.getElem?_eq_getElem hj) e he hb; omega)⟩
      rw [h0] at this
      simp at this
set_option maxRecDepth 100000 in
theorem copies {id n src b : Nat} {ops : Array Oper} {Q : Exit → Act → World → Prop} {a0 : Act} {W : World} {x : M8} (L D : Nat → Nat) (σ : List Nat)
    (hm : Tryz.prog.follows .mixedOrders = true) (hsz : ops.size = 3 * n)
    (hL : ∀ j, j < n → ∃ ty pos af, ops[j]? = some ⟨some (L j), .load 28 (.tmp src), ty, pos, af, none⟩)
    (hD : ∀ j, j < n → ∃ ty pos af, ops[n + j]? = some ⟨some (D j), .alloc 28, ty, pos, af, none⟩)
    (hS : ∀ j, j < n → ∃ ty pos af, ops[2 * n + j]? = some ⟨none, .store 28 (.tmp (D j)) (.tmp (L j)), ty, pos, af, none⟩ ∧ (∃ e ∈ af, e.on = j ∧ Region.binds .any e = true) ∧ (∃ e ∈ af, e.on = n + j ∧ Region.binds .any e = true))
    (hac : ∀ (j : Nat) (o : Oper), ops[j]? = some o → ∀ e ∈ o.after, Region.binds .any e = true → e.on < j)
    (hσ : ∀ j, j < n → L j ∈ σ ∧ D j ∈ σ ∧ L j < a0.tmps.size ∧ D j < a0.tmps.size) (hsr : src ∉ σ)
    (hLD : ∀ i j, i < n → j < n → L i ≠ D j) (hDD : ∀ i j, i < n → j < n → i ≠ j → D i ≠ D j)
    (hsrc : a0.eval (.tmp src) = .pointer (some ⟨b, 0, none⟩)) (hbx : BoxM W b x) (hb : b < W.heap.size)
    (hend : ∀ (v : Nat → Value) (p : Nat → Nat) (w : World), (∀ j, j < n → v (L j) = .agg x.cells ∧ v (D j) = .pointer (some ⟨p j, 0, none⟩) ∧ W.heap.size ≤ p j ∧ p j < w.heap.size ∧ w.rowIs (p j) 28 12 (mV x)) → (∀ i j, i < n → j < n → i ≠ j → p i ≠ p j) → Below W.heap.size W w → Q .normal (sel σ a0 v) w) :
    (Code.region id ops true).wp Tryz.prog Q a0 W := by
  refine wp_region_any hm (wpAny_inv (I := fun listed a w => Below W.heap.size W w ∧ ∃ (v : Nat → Value) (p : Nat → Nat), a = sel σ a0 v ∧ (∀ j, j < n → listed.getD j false = true → v (L j) = .agg x.cells) ∧
    (∀ j, j < n → listed.getD (n + j) false = true → v (D j) = .pointer (some ⟨p j, 0, none⟩) ∧ W.heap.size ≤ p j ∧ p j < w.heap.size ∧ ∃ f, w.rowIs (p j) 28 12 f ∧ (listed.getD (2 * n + j) false = true → f = mV x)) ∧
    (∀ i j, i < n → j < n → i ≠ j → listed.getD (n + i) false = true → listed.getD (n + j) false = true → p i ≠ p j) ∧ (∀ j, j < n → listed.getD (2 * n + j) false = true → listed.getD (n + j) false = true)) ?_ ?_ _ _ _ _ (by simp) (by rw [Array.countP_replicate]; simp) ?_)
  · rintro listed a w i hs ⟨hbw, v, p, rfl, h1, h2, h3, h4⟩ hi
    obtain ⟨hl0, o, ho, hd⟩ := mem_ready.1 hi
    have hio : i < ops.size := (Array.getElem?_eq_some_iff.1 ho).1
    have hilt : i < listed.size := by omega
    have hil : listed.getD i false = false := by
      simp [Array.getD, hilt] at hl0 ⊢; exact hl0
    unfold wpOp
    rw [ho]
    by_cases hi1 : i < n
    · obtain ⟨ty, pos, af, e⟩ := hL i hi1
      rw [ho] at e
      obtain rfl := Option.some.inj e
      obtain ⟨q1, q2, q3, q4⟩ := hσ i hi1
      simp only [Region.wanted, if_true]
      refine .inl (st_loadM (b := b) (x := x) (by rw [sel_out hsr]; exact hsrc) (hbx.below hbw hb) ⟨hbw, fun k => if k = L i then .agg x.cells else v k, p, by rw [sel_put _ q1], fun j hj hl => ?_, fun j hj hl => ?_, fun i' j hi' hj hne l1 l2 => ?_, fun j hj hl => ?_⟩)
      · show (if L j = L i then _ else _) = _
        by_cases e : L j = L i
        · rw [if_pos e]
        · rw [if_neg e]
          rcases lst_set hl with h | h
          · subst h; exact absurd rfl e
          · exact h1 j hj h
      · rcases lst_set hl with h | h
        · omega
        · obtain ⟨r1, r2, r3, f, r4, r5⟩ := h2 j hj h
          refine ⟨?_, r2, r3, f, r4, fun hq => ?_⟩
          · show (if D j = L i then _ else _) = _
            rw [if_neg (fun e => hLD i j hi1 hj e.symm)]; exact r1
          · rcases lst_set hq with h | h
            · omega
            · exact r5 h
      · rcases lst_set l1 with h | h
        · omega
        · rcases lst_set l2 with h' | h'
          · omega
          · exact h3 i' j hi' hj hne h h'
      · rcases lst_set hl with h | h
        · omega
        · exact lst_mono (h4 j hj h)
    · by_cases hi2 : i < 2 * n
      · obtain ⟨k, rfl⟩ : ∃ k, i = n + k := ⟨i - n, by omega⟩
        have hk : k < n := by omega
        obtain ⟨ty, pos, af, e⟩ := hD k hk
        rw [ho] at e
        obtain rfl := Option.some.inj e
        obtain ⟨q1, q2, q3, q4⟩ := hσ k hk
        simp only [Region.wanted, if_true]
        have hz := hbw.size
        have hnb : Below w.heap.size w (w.alloc (.cells zeroM.cells 28)) := (Below.refl _ _).alloc (Nat.le_refl _) _
        have hzn : (w.alloc (.cells zeroM.cells 28)).heap.size = w.heap.size + 1 := by simp
        refine .inl (st_allocM ⟨hbw.trans (hnb.mono hz), fun j => if j = D k then .pointer (some ⟨w.heap.size, 0, none⟩) else v j, fun j => if j = k then w.heap.size else p j, by rw [sel_put _ q2], fun j hj hl => ?_, fun j hj hl => ?_, fun i' j hi' hj hne l1 l2 => ?_, fun j hj hl => ?_⟩)
        · show (if L j = D k then _ else _) = _
          rw [if_neg (hLD j k hj hk)]
          rcases lst_set hl with h | h
          · omega
          · exact h1 j hj h
        · by_cases e : j = k
          · subst e
            refine ⟨by simp, by simp; exact hz, by simp, mV zeroM, by simp; exact mV_new w zeroM, fun hq => ?_⟩
            rcases lst_set hq with h | h
            · omega
            · exfalso
              have := h4 j hj h
              rw [hil] at this; cases this
          · rcases lst_set hl with h | h
            · omega
            · obtain ⟨r1, r2, r3, f, r4, r5⟩ := h2 j hj h
              refine ⟨?_, by simp [e]; exact r2, by simp [e]; omega, f, by simp [e]; exact r4.alloc _, fun hq => ?_⟩
              · show (if D j = D k then _ else _) = _
                rw [if_neg (hDD j k hj hk e)]; simp [e]; exact r1
              · rcases lst_set hq with h | h
                · omega
                · exact r5 h
        · have old : ∀ j, j < n → j ≠ k → (listed.setIfInBounds (n + k) true).getD (n + j) false = true → p j < w.heap.size := fun j hj hne hl => by
            rcases lst_set hl with h | h
            · omega
            · exact (h2 j hj h).2.2.1
          show (if i' = k then _ else _) ≠ (if j = k then _ else _)
          by_cases e1 : i' = k
          · rw [if_pos e1, if_neg (by omega)]
            have := old j hj (by omega) l2; omega
          · rw [if_neg e1]
            by_cases e2 : j = k
            · rw [if_pos e2]
              have := old i' hi' e1 l1; omega
            · rw [if_neg e2]
              rcases lst_set l1 with h | h
              · omega
              · rcases lst_set l2 with h' | h'
                · omega
                · exact h3 i' j hi' hj hne h h'
        · rcases lst_set hl with h | h
          · omega
          · exact lst_mono (h4 j hj h)
      · obtain ⟨k, rfl⟩ : ∃ k, i = 2 * n + k := ⟨i - 2 * n, by omega⟩
        have hk : k < n := by omega
        obtain ⟨ty, pos, af, e, ⟨e1, he1, ho1, hb1⟩, ⟨e2, he2, ho2, hb2⟩⟩ := hS k hk
        rw [ho] at e
        obtain rfl := Option.some.inj e
        obtain ⟨q1, q2, q3, q4⟩ := hσ k hk
        have l1 := hd e1 he1 hb1
        have l2 := hd e2 he2 hb2
        rw [ho1] at l1
        rw [ho2] at l2
        have hv1 := h1 k hk l1
        obtain ⟨r1, r2, r3, f, r4, r5⟩ := h2 k hk l2
        simp only [Region.wanted, if_true]
        refine .inl (st_storeM (b := p k) (x := x) (by rw [sel_in q2 q4]; exact r1) (by rw [sel_in q1 q3]; exact hv1) r4 (fun w' hrow hzw hfar hbl => ⟨hbw.trans (hbl _ r2), v, p, rfl, fun j hj hl => ?_, fun j hj hl => ?_, fun i' j hi' hj hne l1' l2' => ?_, fun j hj hl => ?_⟩))
        · rcases lst_set hl with h | h
          · omega
          · exact h1 j hj h
        · rcases lst_set hl with h | h
          · omega
          · obtain ⟨s1, s2, s3, g, s4, s5⟩ := h2 j hj h
            by_cases e : j = k
            · subst e
              exact ⟨s1, s2, by omega, mV x, hrow, fun _ => rfl⟩
            · refine ⟨s1, s2, by omega, g, s4.of_block (hfar _ (h3 j k hj hk e h l2)), fun hq => ?_⟩
              rcases lst_set hq with h | h
              · omega
              · exact s5 h
        · rcases lst_set l1' with h | h
          · omega
          · rcases lst_set l2' with h' | h'
            · omega
            · exact h3 i' j hi' hj hne h h'
        · rcases lst_set hl with h | h
          · obtain rfl : j = k := by omega
            exact lst_mono l2
          · exact lst_mono (h4 j hj h)
  · rintro listed a w hs h0 ⟨hbw, v, p, rfl, h1, h2, h3, h4⟩
    have hall := ready_allB hac hs h0
    refine hend v p w (fun j hj => ?_) (fun i j hi hj hne => h3 i j hi hj hne (hall _ (by omega)) (hall _ (by omega))) hbw
    obtain ⟨r1, r2, r3, f, r4, r5⟩ := h2 j hj (hall _ (by omega))
    have := r5 (hall _ (by omega))
    subst this
    exact ⟨h1 j hj (hall _ (by omega)), r1, r2, r3, r4⟩
  · refine ⟨⟨rfl, rfl, rfl, Nat.le_refl _, fun _ _ => rfl⟩, fun j => a0.tmps.getD j undef, fun _ => 0, (sel_self a0 σ).symm, fun j hj hl => ?_, fun j hj hl => ?_, fun i j hi hj hne l1 l2 => ?_, fun j hj hl => ?_⟩
    · simp [Array.getD] at hl
    · simp [Array.getD] at hl
    · simp [Array.getD] at l1
    · simp [Array.getD] at hl
end Go.Proofs.YtbppdalfcldodaaGreat
namespace Go.Proofs.YtbppdalfcldodaaGreat
open Go.RowKit Ex
open Go.Sort (grow)
set_option linter.unusedSimpArgs false
set_option linter.unusedVariables false

theorem nil_rows {α : Type} (P : World → Nat → Nat → Nat → α → Prop) (sz : Nat) (w : World) (B : Nat) : Rows P sz w B ⟨none, 0, 0⟩ [] := ⟨rfl, Nat.le_refl _, by show 0 ≤ maxLen; unfold maxLen; omega, fun h => absurd h (by show ¬ 0 < 0; omega), fun _ => rfl⟩
def dM (b : Nat) : M8 := ⟨⟨none, 0, 0⟩, ⟨0, 0, none, 0, 0⟩, ⟨0, 0, none, 0, 0⟩, ⟨some ⟨b, 0, none⟩, 1, 1⟩, ⟨none, 0, 0⟩, ⟨none, 0, 0⟩, ⟨none, 0, 0⟩, ⟨none, 0, 0⟩⟩
def dT (c : CT) : MT := ⟨[], .mk 0 0 [], .mk 0 0 [], [c], [], [], [], []⟩
end Go.Proofs.YtbppdalfcldodaaGreat
namespace Go.Proofs.YtbppdalfcldodaaGreat
open Go.RowKit Ex
set_option linter.unusedSimpArgs false
set_option linter.unusedVariables false

def Chunk {α : Type} (sz : Nat) (C : List Value → α → Prop) (ks : List (List Value)) (l : List α) : Prop :=
  ks.length = l.length ∧ (∀ ch ∈ ks, ch.length = sz ∧ ∀ u ∈ ch, u.oneCell' = true) ∧ ∀ (k : Nat) ch a, ks[k]? = some ch → l[k]? = some a → C ch a
theorem rows_flat_len {sz : Nat} : ∀ {ks : List (List Value)}, (∀ ch ∈ ks, ch.length = sz) → ks.flatten.length = ks.length * sz
  | [], _ => by simp
  | c :: r, h => by
    rw [List.flatten_cons, List.length_append, h c (by simp), rows_flat_len (fun x hx => h x (by simp [hx])), List.length_cons, Nat.succ_mul]; omega
theorem rows_flat_at {sz : Nat} : ∀ {ks : List (List Value)} {k i : Nat} {ch : List Value}, (∀ ch ∈ ks, ch.length = sz) → ks[k]? = some ch → i < sz → ks.flatten[k * sz + i]? = ch[i]?
  | [], k, i, ch, _, h, _ => by simp at h
  | c :: r, 0, i, ch, hl, h, hi => by
    simp at h; subst h
    rw [List.flatten_cons, Nat.zero_mul, Nat.zero_add, List.getElem?_append_left (by rw [hl c (by simp)]; exact hi)]
  | c :: r, k + 1, i, ch, hl, h, hi => by
    have hc := hl c (by simp)
    rw [List.flatten_cons, List.getElem?_append_right (by rw [hc, Nat.succ_mul]; omega), hc]
    have := rows_flat_at (ks := r) (k := k) (i := i) (ch := ch) (fun x hx => hl x (by simp [hx])) (by simpa using h) hi
    rw [← this]; congr 1; rw [Nat.succ_mul]; omega
section
variable {α : Type} {sz : Nat} {C : List Value → α → Prop} {ks : List (List Value)} {l : List α}
theorem Chunk.len (h : Chunk sz C ks l) : ks.flatten.length = l.length * sz := by rw [rows_flat_len (fun ch hc => (h.2.1 ch hc).1), h.1]
theorem Chunk.one (h : Chunk sz C ks l) : ∀ u ∈ ks.flatten, u.oneCell' = true := fun u hu => by
  obtain ⟨ch, hc, hu⟩ := List.mem_flatten.1 hu
  exact (h.2.1 ch hc).2 u hu
theorem Chunk.nil : Chunk sz C [] ([] : List α) := ⟨rfl, fun ch h => by simp at h, fun k ch a h _ => by simp at h⟩
theorem Chunk.snoc {ch : List Value} {a : α} (h : Chunk sz C ks l) (hl : ch.length = sz) (h1 : ∀ u ∈ ch, u.oneCell' = true) (hc : C ch a) : Chunk sz C (ks ++ [ch]) (l ++ [a]) :=
  ⟨by simp [h.1], fun x hx => by
    rcases List.mem_append.1 hx with hx | hx
    · exact h.2.1 x hx
    · simp at hx; subst hx; exact ⟨hl, h1⟩, fun k y b hy hb => by
    by_cases hk : k < ks.length
    · rw [List.getElem?_append_left hk] at hy
      rw [List.getElem?_append_left (by rw [← h.1]; exact hk)] at hb
      exact h.2.2 k y b hy hb
    · rw [List.getElem?_append_right (by omega)] at hy
      rw [List.getElem?_append_right (by rw [← h.1]; omega), ← h.1] at hb
      have h0 : k - ks.length = 0 := by
        have := (List.getElem?_eq_some_iff.1 hy).1
        simp at this; omega
      rw [h0] at hy hb
      simp at hy hb
      subst hy; subst hb
      exact hc⟩
theorem rows_flat_snoc (ks : List (List Value)) (ch : List Value) : (ks ++ [ch]).flatten = ks.flatten ++ ch := by simp
variable {P : World → Nat → Nat → Nat → α → Prop} {w : World} {B b : Nat}
theorem own_rows {base n c e : Nat} {O : Option Addr} (hsz : 0 < sz) (h : w.ownsRow base e sz (.slice O n c) n ks.flatten) (hk : Chunk sz C ks l)
    (hC : ∀ b o ch a, ch.length = sz → C ch a → (∀ (i : Nat) u, ch[i]? = some u → w.cell? ⟨b, o + i, none⟩ = some u) → P w w.heap.size b o a) : Rows P sz w w.heap.size ⟨O, n, c⟩ l := by
  have hl : l.length = n := by
    have h1 := h.1
    rw [hk.len] at h1
    exact Nat.eq_of_mul_eq_mul_right hsz h1
  have hcap : n ≤ c ∧ c ≤ maxLen := by
    rcases h.2 with ⟨e, _⟩ | ⟨g, cap, cur, e, _, _, h1, h2, _⟩
    · injection e with e1 e2 e3; subst e2; subst e3; unfold maxLen; omega
    · injection e with e1 e2 e3; subst e3; exact ⟨h1, h2⟩
  have hnil : O = none → c = 0 := fun e => by
    rcases h.2 with ⟨e1, _⟩ | ⟨g, cap, cur, e1, _⟩
    · injection e1
    · injection e1 with e1; rw [e] at e1; cases e1
  refine ⟨hl, hcap.1, hcap.2, fun hn => ?_, hnil⟩
  obtain ⟨g, cap, hv, hb, hlt⟩ := h.form hn
  have hA : O = some ⟨g, 0, none⟩ := by injection hv
  subst hA
  refine ⟨g, 0, rfl, hlt, fun k a ha => ?_⟩
  have hkl : k < ks.length := by rw [hk.1]; exact (List.getElem?_eq_some_iff.1 ha).1
  have hck := List.getElem?_eq_getElem hkl
  obtain ⟨h1, h2⟩ := hk.2.1 _ (List.mem_of_getElem? hck)
  refine hC g _ _ a h1 (hk.2.2 k _ a hck ha) (fun i u hu => ?_)
  have hi : i < sz := by rw [← h1]; exact (List.getElem?_eq_some_iff.1 hu).1
  have hf := (rows_flat_at (fun ch hc => (hk.2.1 ch hc).1) hck hi).trans hu
  have := h.cells (g := g) rfl (k * sz + i) u hf
  rw [Nat.zero_add]
  clear hf
  generalize k * sz + i = j at this ⊢
  by_cases hj : j = 0
  · subst hj; simpa [Addr.add] using this
  · simpa [Addr.add, hj] using this
end
/- a Set's five cells, a Command's four -/
def SetC (w : World) (B : Nat) (ch : List Value) (s : ST) : Prop := ∃ x : E5, ch = [.int .i64 s.var, .bool s.any, .int .i64 x.op, .int .i64 x.n, .slice x.A x.len x.cap] ∧ EX w B x s.e
theorem set_back {w : World} {B b o : Nat} {ch : List Value} {s : ST} (h : SetC w B ch s) (hc : ∀ (i : Nat) u, ch[i]? = some u → w.cell? ⟨b, o + i, none⟩ = some u) : SetAt w B b o s := by
  obtain ⟨x, rfl, he⟩ := h
  exact ⟨hc 0 _ rfl, hc 1 _ rfl, x, ⟨hc 2 _ rfl, hc 3 _ rfl, hc 4 _ rfl⟩, he⟩
def CmdC (w : World) (B : Nat) (ch : List Value) (c : CT) : Prop := ∃ (x : E5) (s : SL), ch = [.int .i64 x.op, .int .i64 x.n, .slice x.A x.len x.cap, s.v] ∧ EX w B x c.guard ∧ Rows SetAt 5 w B s c.sets
theorem SetC.up {w w' : World} {B B' : Nat} {ch : List Value} {s : ST} (h : SetC w B ch s) (hb : Below B w w') (hB : B ≤ B') : SetC w' B' ch s := by
  obtain ⟨x, e, he⟩ := h
  exact ⟨x, e, (he.below hb).more hB⟩
theorem CmdC.up {w w' : World} {B B' : Nat} {ch : List Value} {c : CT} (h : CmdC w B ch c) (hb : Below B w w') (hB : B ≤ B') : CmdC w' B' ch c := by
  obtain ⟨x, s, e, he, hs⟩ := h
  exact ⟨x, s, e, (he.below hb).more hB, (hs.keep (fun b o x h1 hx => SetAt.keep h1 hx (fun _ hp => hb.cell hp))).more hB (fun b o x hx => SetAt.more hx hB)⟩
end Go.Proofs.YtbppdalfcldodaaGreat
namespace Go.Proofs.YtbppdalfcldodaaGreat
open Go.RowKit Ex
set_option linter.unusedSimpArgs false
set_option linter.unusedVariables false

end Go.Proofs.YtbppdalfcldodaaGreat
