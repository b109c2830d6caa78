/- The walk of parrylaw5's Heavy: its number. -/
import Derived.Test.YtjpphjmehgflpaaGreatDoorGMd
namespace Go.Proofs.YtjpphjmehgflpaaGreatDoor
open Go.RowKit Ex
open Go.Sort (grow)
set_option linter.unusedSimpArgs false
set_option linter.unusedVariables false

theorem vheavy_le : ∀ (l : List Dom.V) (i : Nat), i ≤ 10 → Dom.heavyGo i l ≤ 11
  | [], i, h => by simp [Dom.heavyGo]
  | v :: r, i, h => by
    rw [Dom.heavyGo]; split
    · omega
    · rename_i h1
      exact vheavy_le r (i + 1) (by omega)
theorem vheavy_bd (l : List Dom.V) : 0 ≤ Dom.heavyGo 0 l ∧ Dom.heavyGo 0 l ≤ 11 := ⟨Dom.heavy_nonneg l 0, vheavy_le l 0 (by omega)⟩
theorem q_heavyX {W : World} {B : Nat} {x : E5} {t : T} {dd : Nat} {os : Array Obj} (hB : B ≤ W.heap.size) (Hre : Hid (EX W B x t)) : Calls Tryz.prog 13 #[.agg #[.int .i64 x.op, .int .i64 x.n, .slice x.A x.len x.cap]] (grow (redrawn W dd) os) fun e w'' => e = .returned (.int .i64 (heavyE t)) ∧ ∃ p : Regrown, w'' = grow (redrawn W p.d) p.os := by
  obtain ⟨d, hre⟩ := Hre.out
  exact q_heavy hB (hide hre)
def hvE : List T → Int → Int
  | [], x => x
  | t :: r, x => hvE r (x + heavyE t)
def hvS : List ST → Int → Int
  | [], x => x
  | s :: r, x => hvS r (x + heavyE s.e)
def hvC : List CT → Int → Option Int
  | [], x => some x
  | c :: r, x => if 12 < c.sets.length then none else hvC r (hvS c.sets (x + heavyE c.guard))
def k3 (m : MT) (x : Int) : Int := hvE m.prio (hvE m.ens (hvE m.asm x))
def k2 (m : MT) (o : Option Int) : Int := match o with
  | none => 1
  | some x => k3 m x
def k1 (m : MT) (o : Option Int) : Int := match o with
  | none => 1
  | some x => k2 m (hvC m.sys x)
def hvBad (m : MT) : Prop := 0 < Dom.heavyGo 0 m.vars ∨ 16 < m.env.length ∨ 16 < m.sys.length ∨ 8 < m.asm.length ∨ 8 < m.ens.length ∨ 8 < m.prio.length
instance (m : MT) : Decidable (hvBad m) := by unfold hvBad; infer_instance
def hvM (m : MT) : Int := if hvBad m then 1 else k1 m (hvC m.env (heavyE m.ie + heavyE m.is))
theorem hv_one {m : MT} (h : hvBad m) : hvM m = 1 := if_pos h
theorem hv_on {m : MT} (h : ¬ hvBad m) : hvM m = k1 m (hvC m.env (heavyE m.ie + heavyE m.is)) := if_neg h
theorem hvC_bad {l : List CT} {k : Nat} {c : CT} (x : Int) (h : l[k]? = some c) (hb : 12 < c.sets.length) : hvC (l.drop k) x = none := by rw [drop_at h, hvC, if_pos hb]
theorem hvC_on {l : List CT} {k : Nat} {c : CT} (x : Int) (h : l[k]? = some c) (hb : ¬ 12 < c.sets.length) : hvC (l.drop k) x = hvC (l.drop (k + 1)) (hvS c.sets (x + heavyE c.guard)) := by rw [drop_at h, hvC, if_neg hb]
theorem hvC_end {l : List CT} {k : Nat} (x : Int) (h : l.length ≤ k) : hvC (l.drop k) x = some x := by rw [List.drop_of_length_le h, hvC]
theorem hvS_on {l : List ST} {k : Nat} {c : ST} (x : Int) (h : l[k]? = some c) : hvS (l.drop k) x = hvS (l.drop (k + 1)) (x + heavyE c.e) := by rw [drop_at h, hvS]
theorem hvS_end {l : List ST} {k : Nat} (x : Int) (h : l.length ≤ k) : hvS (l.drop k) x = x := by rw [List.drop_of_length_le h, hvS]
theorem hvE_on {l : List T} {k : Nat} {c : T} (x : Int) (h : l[k]? = some c) : hvE (l.drop k) x = hvE (l.drop (k + 1)) (x + heavyE c) := by rw [drop_at h, hvE]
theorem hvE_end {l : List T} {k : Nat} (x : Int) (h : l.length ≤ k) : hvE (l.drop k) x = x := by rw [List.drop_of_length_le h, hvE]
theorem hvE_bd : ∀ (l : List T) (x : Int), 0 ≤ x → 0 ≤ hvE l x ∧ hvE l x ≤ x + 1000 * (l.length : Int)
  | [], x, h => by simp [hvE]; omega
  | t :: r, x, h => by
    obtain ⟨y1, y2⟩ := heavy_bd t
    have := hvE_bd r (x + heavyE t) (by omega)
    rw [hvE, List.length_cons]
    omega
theorem hvS_bd : ∀ (l : List ST) (x : Int), 0 ≤ x → 0 ≤ hvS l x ∧ hvS l x ≤ x + 1000 * (l.length : Int)
  | [], x, h => by simp [hvS]; omega
  | s :: r, x, h => by
    obtain ⟨y1, y2⟩ := heavy_bd s.e
    have := hvS_bd r (x + heavyE s.e) (by omega)
    rw [hvS, List.length_cons]
    omega
theorem hvC_bd : ∀ (l : List CT) (x y : Int), 0 ≤ x → hvC l x = some y → 0 ≤ y ∧ y ≤ x + 13000 * (l.length : Int)
  | [], x, y, h, e => by simp [hvC] at e; simp; omega
  | c :: r, x, y, h, e => by
    rw [hvC] at e
    split at e
    · cases e
    · obtain ⟨y1, y2⟩ := heavy_bd c.guard
      have h1 := hvS_bd c.sets (x + heavyE c.guard) (by omega)
      have h2 := hvC_bd r _ y h1.1 e
      rw [List.length_cons]
      omega
theorem hvM_bd (m : MT) : 0 ≤ hvM m ∧ hvM m ≤ 1000000 := by
  by_cases hb : hvBad m
  · rw [hv_one hb]; omega
  · rw [hv_on hb]
    have hl : m.env.length ≤ 16 ∧ m.sys.length ≤ 16 ∧ m.asm.length ≤ 8 ∧ m.ens.length ≤ 8 ∧ m.prio.length ≤ 8 := by unfold hvBad at hb; omega
    obtain ⟨y1, y2⟩ := heavy_bd m.ie
    obtain ⟨z1, z2⟩ := heavy_bd m.is
    cases h1 : hvC m.env (heavyE m.ie + heavyE m.is) with
    | none => simp [k1]
    | some x =>
      have b1 := hvC_bd _ _ _ (by omega) h1
      simp only [k1]
      cases h2 : hvC m.sys x with
      | none => simp [k2]
      | some y =>
        have b2 := hvC_bd _ _ _ b1.1 h2
        simp only [k2, k3]
        have b3 := hvE_bd m.asm y b2.1
        have b4 := hvE_bd m.ens _ b3.1
        have b5 := hvE_bd m.prio _ b4.1
        omega
set_option maxRecDepth 100000 in
set_option maxHeartbeats 8000000 in
theorem hvx_any (B : Nat) (x : M8) (m : MT) (w : World) (hB : B ≤ w.heap.size) (hrm : RM w B x m) :
    Calls Tryz.prog 4 #[.agg x.cells] w fun e w' => e = .returned (.int .i64 (hvM m)) ∧ Below w.heap.size w w' := by
  have HL : Hid (m.env.length = x.env.n ∧ m.sys.length = x.sys.n ∧ m.asm.length = x.asm.n ∧ m.ens.length = x.ens.n ∧ m.prio.length = x.prio.n) := hide ⟨hrm.2.2.2.2.1.1, hrm.2.2.2.2.2.1.1, hrm.2.2.2.2.2.2.1.1, hrm.2.2.2.2.2.2.2.1.1, hrm.2.2.2.2.2.2.2.2.1⟩
  have hbx := (Below.refl w.heap.size w).alloc (Nat.le_refl _) (.cells x.cells 28)
  have Hrm0 := hide (hrm.below (hbx.mono hB))
  have Hbx0 := hide (boxM_new w x)
  have Hb0 := hide hbx
  have hz0 : w.heap.size + 1 ≤ (w.alloc (.cells x.cells 28)).heap.size := by simp
  have Ho := hide hrm.1
  obtain ⟨⟨vA, vn, vc⟩, ⟨io, im, iA, il, ic⟩, ⟨jo, jm, jA, jl, jc⟩, ⟨eA, en, ec⟩, ⟨sA, sn, sc⟩, ⟨aA, an, ac⟩, ⟨nA, nn, nc⟩, ⟨pA, pn, pc⟩⟩ := x
  have bE := hrm.2.2.2.2.1.2
  have bS := hrm.2.2.2.2.2.1.2
  have bA := hrm.2.2.2.2.2.2.1.2
  have bN := hrm.2.2.2.2.2.2.2.1.2
  have bP := hrm.2.2.2.2.2.2.2.2.2
  have xE : en ≤ 2 ^ 63 - 1 := Nat.le_trans bE.1 bE.2.1
  have xS : sn ≤ 2 ^ 63 - 1 := Nat.le_trans bS.1 bS.2.1
  have xA : an ≤ 2 ^ 63 - 1 := Nat.le_trans bA.1 bA.2.1
  have xN : nn ≤ 2 ^ 63 - 1 := Nat.le_trans bN.1 bN.2.1
  have xP : pn ≤ 2 ^ 63 - 1 := Nat.le_trans bP.1 bP.2.1
  have xV : vn ≤ 2 ^ 63 - 1 := hrm.1.1
  obtain ⟨v1, v2⟩ := vheavy_bd m.vars
  clear hrm hbx bE bS bA bN bP
  simp only [M8.cells, SL.v] at *
  have q0 : (w.alloc (.cells #[.slice vA vn vc, .int .i64 io, .int .i64 im, .slice iA il ic, .int .i64 jo, .int .i64 jm, .slice jA jl jc, .slice eA en ec, .slice sA sn sc, .slice aA an ac, .slice nA nn nc, .slice pA pn pc] 28)).cell? ⟨w.heap.size, 0, none⟩ = some (.slice vA vn vc) := Hbx0.out 0 _ rfl
  go_enter Tryz.func4, Tryz.ntmps4
  go_wp2_with fail
  clear q0
  generalize hW : w.alloc (.cells #[.slice vA vn vc, .int .i64 io, .int .i64 im, .slice iA il ic, .int .i64 jo, .int .i64 jm, .slice jA jl jc, .slice eA en ec, .slice sA sn sc, .slice aA an ac, .slice nA nn nc, .slice pA pn pc] 28) = w0 at *
  clear hW
  refine (Dom.heavy_any vA vn vc B m.vars w0 Ho.out.1 (by omega) Hrm0.out.2.1 Ho.out.2.2.2).mono ?_
  rintro e w1 ⟨rfl, hb1⟩
  have hz1 := hb1.size
  have Hb1 := hide (Hb0.out.trans (hb1.mono (by omega)))
  have Hrm1 := hide (Hrm0.out.below (hb1.mono (by omega)))
  have Hbx1 := hide (Hbx0.out.below hb1 (by omega))
  clear hb1 Hb0 Hrm0 Hbx0
  have r1 : w1.cell? ⟨w.heap.size, 7, none⟩ = some (.slice eA en ec) := Hbx1.out 7 _ rfl
  have r2 : w1.cell? ⟨w.heap.size, 8, none⟩ = some (.slice sA sn sc) := Hbx1.out 8 _ rfl
  have r3 : w1.cell? ⟨w.heap.size, 9, none⟩ = some (.slice aA an ac) := Hbx1.out 9 _ rfl
  have r4 : w1.cell? ⟨w.heap.size, 10, none⟩ = some (.slice nA nn nc) := Hbx1.out 10 _ rfl
  have r5 : w1.cell? ⟨w.heap.size, 11, none⟩ = some (.slice pA pn pc) := Hbx1.out 11 _ rfl
  by_cases hh : 0 < Dom.heavyGo 0 m.vars
  · have hhb : decide (0 < Dom.heavyGo 0 m.vars) = true := by simp [hh]
    go_wp2_with fail
    go_ret
    exact ⟨ret_int (hv_one (by obtain ⟨q1, q2, q3, q4, q5⟩ := HL.out; unfold hvBad; omega)).symm, Hb1.out⟩
  · have hhb : decide (0 < Dom.heavyGo 0 m.vars) = false := by simp; omega
    by_cases hs0 : 16 < en
    · have hsb0 : decide ((16 : Int) < (en : Int)) = true := by simp; omega
      have hsc0 : decide (16 < en) = true := by simp; omega
      go_wp2_with fail
      go_ret
      exact ⟨ret_int (hv_one (by obtain ⟨q1, q2, q3, q4, q5⟩ := HL.out; unfold hvBad; omega)).symm, Hb1.out⟩
    · have hsb0 : decide ((16 : Int) < (en : Int)) = false := by simp; omega
      have hsc0 : decide (16 < en) = false := by simp; omega
      by_cases hs1 : 16 < sn
      · have hsb1 : decide ((16 : Int) < (sn : Int)) = true := by simp; omega
        have hsc1 : decide (16 < sn) = true := by simp; omega
        go_wp2_with fail
        go_ret
        exact ⟨ret_int (hv_one (by obtain ⟨q1, q2, q3, q4, q5⟩ := HL.out; unfold hvBad; omega)).symm, Hb1.out⟩
      · have hsb1 : decide ((16 : Int) < (sn : Int)) = false := by simp; omega
        have hsc1 : decide (16 < sn) = false := by simp; omega
        by_cases hs2 : 8 < an
        · have hsb2 : decide ((8 : Int) < (an : Int)) = true := by simp; omega
          have hsc2 : decide (8 < an) = true := by simp; omega
          go_wp2_with fail
          go_ret
          exact ⟨ret_int (hv_one (by obtain ⟨q1, q2, q3, q4, q5⟩ := HL.out; unfold hvBad; omega)).symm, Hb1.out⟩
        · have hsb2 : decide ((8 : Int) < (an : Int)) = false := by simp; omega
          have hsc2 : decide (8 < an) = false := by simp; omega
          by_cases hs3 : 8 < nn
          · have hsb3 : decide ((8 : Int) < (nn : Int)) = true := by simp; omega
            have hsc3 : decide (8 < nn) = true := by simp; omega
            go_wp2_with fail
            go_ret
            exact ⟨ret_int (hv_one (by obtain ⟨q1, q2, q3, q4, q5⟩ := HL.out; unfold hvBad; omega)).symm, Hb1.out⟩
          · have hsb3 : decide ((8 : Int) < (nn : Int)) = false := by simp; omega
            have hsc3 : decide (8 < nn) = false := by simp; omega
            by_cases hs4 : 8 < pn
            · have hsb4 : decide ((8 : Int) < (pn : Int)) = true := by simp; omega
              have hsc4 : decide (8 < pn) = true := by simp; omega
              go_wp2_with fail
              go_ret
              exact ⟨ret_int (hv_one (by obtain ⟨q1, q2, q3, q4, q5⟩ := HL.out; unfold hvBad; omega)).symm, Hb1.out⟩
            · have hsb4 : decide ((8 : Int) < (pn : Int)) = false := by simp; omega
              have hsc4 : decide (8 < pn) = false := by simp; omega
              go_wp2_with fail
              clear r1 r2 r3 r4 r5 hhb
              have C1 := cell_regrown (Hbx1.out 1 _ rfl)
              have C2 := cell_regrown (Hbx1.out 2 _ rfl)
              have C3 := cell_regrown (Hbx1.out 3 _ rfl)
              have C4 := cell_regrown (Hbx1.out 4 _ rfl)
              have C5 := cell_regrown (Hbx1.out 5 _ rfl)
              have C6 := cell_regrown (Hbx1.out 6 _ rfl)
              have hBW : B ≤ w1.heap.size := by omega
              have HM0 : Hid (hvM m = k1 m (hvC m.env (heavyE m.ie + heavyE m.is))) := hide (hv_on (by obtain ⟨q1, q2, q3, q4, q5⟩ := HL.out; unfold hvBad; omega))
              have He1 := hide Hrm1.out.2.2.1
              have He2 := hide Hrm1.out.2.2.2.1
              clear v1 v2 hh
              obtain ⟨z1, z2⟩ := heavy_bd m.ie
              obtain ⟨z3, z4⟩ := heavy_bd m.is
              refine wp_region_quiet_below (by kernel_rfl) (by kernel_rfl) ?_
              repeat (go_big_quiet_step (first | (go_at_call 13; exact q_heavyX hBW He1) | (go_at_call 13; exact q_heavyX hBW He2)))
              refine wpQuiet_nil ?_
              intro w2 hw2
              obtain ⟨pp, hpp⟩ := hw2
              have hb2 : Below w1.heap.size w1 w2 := by rw [hpp]; exact below_regrown w1 pp.d pp.os
              clear hpp C1 C2 C3 C4 C5 C6 He1 He2
              have hz2 := hb2.size
              have Hb2 := hide (Hb1.out.trans (hb2.mono (by omega)))
              have Hrm2 := hide (Hrm1.out.below (hb2.mono (by omega)))
              have Hbx2 := hide (Hbx1.out.below hb2 (by omega))
              clear hb2 Hb1 Hrm1 Hbx1
              have r1 : w2.cell? ⟨w.heap.size, 7, none⟩ = some (.slice eA en ec) := Hbx2.out 7 _ rfl
              have r2 : w2.cell? ⟨w.heap.size, 8, none⟩ = some (.slice sA sn sc) := Hbx2.out 8 _ rfl
              generalize heavyE m.ie = x1 at *
              generalize heavyE m.is = x2 at *
              go_wp2_with fail
              clear r1 r2
              go_loopw [3, 60] (fun nv i wr => ∃ x : Int, nv = .int .i64 x ∧ 0 ≤ x ∧ ((i = .int .i64 0 ∧ x ≤ 2000 ∧ Hid (hvM m = k1 m (hvC m.env x))) ∨ (i = .int .i64 1 ∧ x ≤ 210000 ∧ Hid (hvM m = k2 m (hvC m.sys x))) ∨ (i = .int .i64 2 ∧ x ≤ 418000 ∧ Hid (hvM m = k3 m x))) ∧ Below w2.heap.size w2 wr) (fun _ i _ => 2 - (intOf i).toNat)
              case atStart => exact ⟨_, rfl, by omega, .inl ⟨rfl, by omega, HM0⟩, Below.refl _ _⟩
              case round =>
                obtain ⟨x, rfl, hx1, hi, hbo⟩ := hrel
                rcases hi with ⟨rfl, hx2, HE⟩ | ⟨rfl, hx2, HE⟩ | ⟨rfl, hx2, HE⟩
                · have hix : ∀ w : World, (Instr.index 40 (.agg #[.slice eA en ec, .slice sA sn sc]) (.int .i64 0)).run Tryz.prog w = .ok (.slice eA en ec) w := by
                    intro w
                    kernel_rfl
                  obtain ⟨wo, rfl⟩ : ∃ wo, wo = wr := ⟨_, rfl⟩
                  go_wp2_with fail
                  clear hix
                  go_loopw [3, 65] (fun nv i wr => ∃ (k : Nat) (x : Int), k ≤ en ∧ i = .int .i64 k ∧ nv = .int .i64 x ∧ 0 ≤ x ∧ x ≤ 2000 + 13000 * (k : Int) ∧ Hid (hvM m = k1 m (hvC (m.env.drop k) x)) ∧ Below w2.heap.size w2 wr) (fun _ i _ => en - (intOf i).toNat)
                  case atStart => exact ⟨0, _, by omega, rfl, rfl, by omega, by omega, HE, hbo⟩
                  case round =>
                    clear HE
                    obtain ⟨k, x, hk, rfl, rfl, hx1, hx2, HE, hbw⟩ := hrel
                    have hzr := hbw.size
                    obtain ⟨wk, rfl⟩ : ∃ wk, wk = wr := ⟨_, rfl⟩
                    by_cases hlt : k < en
                    · have hlt' : ((k : Int) < (en : Int)) := by omega
                      obtain ⟨b, off, cc, eA2, hbB, hku, ⟨⟨⟨go, gn, gA, gl, gc⟩, ⟨c0, c1, c2⟩, ⟨dg, hex⟩⟩, ⟨tA, tn, tc⟩, c3, hrs⟩⟩ := ((Hrm2.out.2.2.2.2.1).keep (w' := wk) (fun b o y h1 hy => CmdAt.keep h1 hy (fun p hp => (hbw.mono (by omega)).cell hp))).at_ (k := k) hlt
                      simp only [SL.v] at eA2 c0 c1 c2 c3 hex
                      subst eA2
                      have Hku := hide hku
                      have Htn := hide hrs.1
                      clear hku
                      have htc := hrs.2.1
                      have htm := hrs.2.2.1
                      simp only at htc htm
                      unfold maxLen at htm
                      have hbA := (Below.refl wk.heap.size wk).alloc (Nat.le_refl _) (.cells #[.int .i64 go, .int .i64 gn, .slice gA gl gc, .slice tA tn tc] 31)
                      have Hex := hide (hex.below (hbA.mono (by omega)))
                      have Hrs0 := hide (hrs.keep (w' := wk.alloc (.cells #[.int .i64 go, .int .i64 gn, .slice gA gl gc, .slice tA tn tc] 31)) (fun b o y h1 hy => SetAt.keep h1 hy (fun p hp => (hbA.mono (by omega)).cell hp)))
                      have HbA := hide (hbw.trans (hbA.mono hzr))
                      have hzA : wk.heap.size + 1 ≤ (wk.alloc (.cells #[.int .i64 go, .int .i64 gn, .slice gA gl gc, .slice tA tn tc] 31)).heap.size := by simp
                      have Hx4 := hide (box4 wk go gn gA gl gc tA tn tc)
                      obtain ⟨⟨f0, f1, f2⟩, f3⟩ := Hx4.out
                      clear hex hrs hbA hbw
                      by_cases ht : 12 < tn
                      · have htb : decide ((12 : Int) < (tn : Int)) = true := by simp; omega
                        have htb2 : decide (12 < tn) = true := by simp; omega
                        have Hbf := hide (Hb2.out.trans (HbA.out.mono (by have := Hb2.out.size; omega)))
                        go_wp2_with fail
                        go_ret
                        exact ⟨ret_int (by rw [HE.out, hvC_bad x Hku.out (by rw [Htn.out]; exact ht)]; rfl), Hbf.out⟩
                      · have htb : decide ((12 : Int) < (tn : Int)) = false := by simp; omega
                        have htb2 : decide (12 < tn) = false := by simp; omega
                        go_wp2_with fail
                        clear c0 c1 c2 c3 f0 f1 f2 f3
                        generalize hWk : wk.alloc (.cells #[.int .i64 go, .int .i64 gn, .slice gA gl gc, .slice tA tn tc] 31) = W1 at *
                        generalize hNk : wk.heap.size = Nk at *
                        clear hWk
                        refine (heavy_any B dg go gn gA gl gc cc.guard W1 (by omega) Hex.out).mono ?_
                        rintro e wc ⟨rfl, hbc⟩
                        have hzc := hbc.size
                        have Hbc := hide (HbA.out.trans (hbc.mono (by omega)))
                        have Hrsc := hide (Hrs0.out.keep (w' := wc) (fun b o y h1 hy => SetAt.keep h1 hy (fun p hp => (hbc.mono (by omega)).cell hp)))
                        have f3 := (hbc.cell (p := ⟨Nk, 3, none⟩) (by show Nk < W1.heap.size; omega)).trans Hx4.out.2
                        obtain ⟨y1, y2⟩ := heavy_bd cc.guard
                        have HE2 : Hid (hvM m = k1 m (hvC (m.env.drop (k + 1)) (hvS cc.sets (x + heavyE cc.guard)))) := hide (by rw [HE.out, hvC_on x Hku.out (by rw [Htn.out]; exact ht)])
                        clear HE
                        have Hrs : Hid (Rows SetAt 5 wc B ⟨tA, tn, tc⟩ cc.sets) := Hrsc
                        clear hbc HbA Hex Hrs0 Hx4 Hrsc
                        generalize heavyE cc.guard = y at *
                        go_wp2_with fail
                        clear f3
                        have hKeep : ∀ wr : World, Below w2.heap.size w2 wr → True := fun _ _ => trivial
                        go_loopw [3, 81] (fun nv i wr => ∃ (j : Nat) (x : Int), j ≤ tn ∧ i = .int .i64 j ∧ nv = .int .i64 x ∧ 0 ≤ x ∧ x ≤ (2000 + 13000 * (k : Int) + 1000) + 1000 * (j : Int) ∧ Hid (hvM m = k1 m (hvC (m.env.drop (k + 1)) (hvS (cc.sets.drop j) x))) ∧ Below wc.heap.size wc wr) (fun _ i _ => tn - (intOf i).toNat)
                        case atStart => exact ⟨0, _, by omega, rfl, rfl, by omega, by omega, HE2, Below.refl _ _⟩
                        case round =>
                          clear HE2
                          obtain ⟨j, x, hj, rfl, rfl, hx1, hx2, HE2, hbw2⟩ := hrel
                          have hzr2 := hbw2.size
                          by_cases hlt2 : j < tn
                          · have hlt2' : ((j : Int) < (tn : Int)) := by omega
                            obtain ⟨b2, off2, s, eA3, hbB2, hku2, ⟨c0, c1, ⟨so, sm, sO, sl2, sc2⟩, ⟨c2, c3, c4⟩, ⟨ds, hes⟩⟩⟩ := (Hrs.out.keep (w' := wr) (fun b o y h1 hy => SetAt.keep h1 hy (fun p hp => (hbw2.mono (by omega)).cell hp))).at_ (k := j) hlt2
                            simp only at eA3 c0 c1 c2 c3 c4 hes
                            subst eA3
                            obtain ⟨z, p, te⟩ := s
                            simp only at c0 c1 hes
                            have Hku2 := hide hku2
                            clear hku2
                            have hbA := (Below.refl wr.heap.size wr).alloc (Nat.le_refl _) (.cells #[.int .i64 z, .bool p, .int .i64 so, .int .i64 sm, .slice sO sl2 sc2] 42)
                            have Hes := hide (hes.below (hbA.mono (by omega)))
                            have HbA := hide (hbw2.trans (hbA.mono hzr2))
                            have hzA : wr.heap.size + 1 ≤ (wr.alloc (.cells #[.int .i64 z, .bool p, .int .i64 so, .int .i64 sm, .slice sO sl2 sc2] 42)).heap.size := by simp
                            obtain ⟨d0, d1, d2, d3, d4⟩ := box5_new wr z p so sm sO sl2 sc2
                            clear hes hbA hbw2
                            go_wp2_with fail
                            clear c0 c1 c2 c3 c4 d0 d1 d2 d3 d4
                            generalize wr.alloc (.cells #[.int .i64 z, .bool p, .int .i64 so, .int .i64 sm, .slice sO sl2 sc2] 42) = W1 at *
                            refine (heavy_any B ds so sm sO sl2 sc2 te W1 (by omega) Hes.out).mono ?_
                            rintro e wd ⟨rfl, hbd⟩
                            have Hbc2 := hide (HbA.out.trans (hbd.mono (by omega)))
                            obtain ⟨y1, y2⟩ := heavy_bd te
                            have HE3 : Hid (hvM m = k1 m (hvC (m.env.drop (k + 1)) (hvS (cc.sets.drop (j + 1)) (x + heavyE te)))) := hide (by rw [HE2.out, hvS_on x Hku2.out])
                            clear hbd HbA Hes
                            generalize heavyE te = y at *
                            go_wp2_with fail
                            go_roundw
                            case rel => exact ⟨j + 1, x + y, by omega, by go_num, by go_num, by omega, by omega, HE3, Hbc2.out⟩
                            case measure => simp [intOf]; omega
                          · have hlt2' : ¬ ((j : Int) < (tn : Int)) := by omega
                            go_wp2_with fail
                            go_roundw
                            case rel => exact ⟨k + 1, x, by omega, by go_num, rfl, by omega, by omega, hide (by rw [HE2.out, hvS_end x (by rw [Htn.out]; omega)]), Hbc.out.trans (hbw2.mono (by omega))⟩
                            case measure => simp [intOf]; omega
                    · have hlt' : ¬ ((k : Int) < (en : Int)) := by omega
                      go_wp2_with fail
                      go_roundw
                      case rel => exact ⟨x, rfl, by omega, .inr (.inl ⟨rfl, by omega, hide (by rw [HE.out, hvC_end x (by rw [HL.out.1]; show en ≤ k; omega)]; rfl)⟩), hbw⟩
                      case measure => simp [intOf]
                · have hix : ∀ w : World, (Instr.index 40 (.agg #[.slice eA en ec, .slice sA sn sc]) (.int .i64 1)).run Tryz.prog w = .ok (.slice sA sn sc) w := by
                    intro w
                    kernel_rfl
                  obtain ⟨wo, rfl⟩ : ∃ wo, wo = wr := ⟨_, rfl⟩
                  go_wp2_with fail
                  clear hix
                  go_loopw [3, 65] (fun nv i wr => ∃ (k : Nat) (x : Int), k ≤ sn ∧ i = .int .i64 k ∧ nv = .int .i64 x ∧ 0 ≤ x ∧ x ≤ 210000 + 13000 * (k : Int) ∧ Hid (hvM m = k2 m (hvC (m.sys.drop k) x)) ∧ Below w2.heap.size w2 wr) (fun _ i _ => sn - (intOf i).toNat)
                  case atStart => exact ⟨0, _, by omega, rfl, rfl, by omega, by omega, HE, hbo⟩
                  case round =>
                    clear HE
                    obtain ⟨k, x, hk, rfl, rfl, hx1, hx2, HE, hbw⟩ := hrel
                    have hzr := hbw.size
                    obtain ⟨wk, rfl⟩ : ∃ wk, wk = wr := ⟨_, rfl⟩
                    by_cases hlt : k < sn
                    · have hlt' : ((k : Int) < (sn : Int)) := by omega
                      obtain ⟨b, off, cc, eA2, hbB, hku, ⟨⟨⟨go, gn, gA, gl, gc⟩, ⟨c0, c1, c2⟩, ⟨dg, hex⟩⟩, ⟨tA, tn, tc⟩, c3, hrs⟩⟩ := ((Hrm2.out.2.2.2.2.2.1).keep (w' := wk) (fun b o y h1 hy => CmdAt.keep h1 hy (fun p hp => (hbw.mono (by omega)).cell hp))).at_ (k := k) hlt
                      simp only [SL.v] at eA2 c0 c1 c2 c3 hex
                      subst eA2
                      have Hku := hide hku
                      have Htn := hide hrs.1
                      clear hku
                      have htc := hrs.2.1
                      have htm := hrs.2.2.1
                      simp only at htc htm
                      unfold maxLen at htm
                      have hbA := (Below.refl wk.heap.size wk).alloc (Nat.le_refl _) (.cells #[.int .i64 go, .int .i64 gn, .slice gA gl gc, .slice tA tn tc] 31)
                      have Hex := hide (hex.below (hbA.mono (by omega)))
                      have Hrs0 := hide (hrs.keep (w' := wk.alloc (.cells #[.int .i64 go, .int .i64 gn, .slice gA gl gc, .slice tA tn tc] 31)) (fun b o y h1 hy => SetAt.keep h1 hy (fun p hp => (hbA.mono (by omega)).cell hp)))
                      have HbA := hide (hbw.trans (hbA.mono hzr))
                      have hzA : wk.heap.size + 1 ≤ (wk.alloc (.cells #[.int .i64 go, .int .i64 gn, .slice gA gl gc, .slice tA tn tc] 31)).heap.size := by simp
                      have Hx4 := hide (box4 wk go gn gA gl gc tA tn tc)
                      obtain ⟨⟨f0, f1, f2⟩, f3⟩ := Hx4.out
                      clear hex hrs hbA hbw
                      by_cases ht : 12 < tn
                      · have htb : decide ((12 : Int) < (tn : Int)) = true := by simp; omega
                        have htb2 : decide (12 < tn) = true := by simp; omega
                        have Hbf := hide (Hb2.out.trans (HbA.out.mono (by have := Hb2.out.size; omega)))
                        go_wp2_with fail
                        go_ret
                        exact ⟨ret_int (by rw [HE.out, hvC_bad x Hku.out (by rw [Htn.out]; exact ht)]; rfl), Hbf.out⟩
                      · have htb : decide ((12 : Int) < (tn : Int)) = false := by simp; omega
                        have htb2 : decide (12 < tn) = false := by simp; omega
                        go_wp2_with fail
                        clear c0 c1 c2 c3 f0 f1 f2 f3
                        generalize hWk : wk.alloc (.cells #[.int .i64 go, .int .i64 gn, .slice gA gl gc, .slice tA tn tc] 31) = W1 at *
                        generalize hNk : wk.heap.size = Nk at *
                        clear hWk
                        refine (heavy_any B dg go gn gA gl gc cc.guard W1 (by omega) Hex.out).mono ?_
                        rintro e wc ⟨rfl, hbc⟩
                        have hzc := hbc.size
                        have Hbc := hide (HbA.out.trans (hbc.mono (by omega)))
                        have Hrsc := hide (Hrs0.out.keep (w' := wc) (fun b o y h1 hy => SetAt.keep h1 hy (fun p hp => (hbc.mono (by omega)).cell hp)))
                        have f3 := (hbc.cell (p := ⟨Nk, 3, none⟩) (by show Nk < W1.heap.size; omega)).trans Hx4.out.2
                        obtain ⟨y1, y2⟩ := heavy_bd cc.guard
                        have HE2 : Hid (hvM m = k2 m (hvC (m.sys.drop (k + 1)) (hvS cc.sets (x + heavyE cc.guard)))) := hide (by rw [HE.out, hvC_on x Hku.out (by rw [Htn.out]; exact ht)])
                        clear HE
                        have Hrs : Hid (Rows SetAt 5 wc B ⟨tA, tn, tc⟩ cc.sets) := Hrsc
                        clear hbc HbA Hex Hrs0 Hx4 Hrsc
                        generalize heavyE cc.guard = y at *
                        go_wp2_with fail
                        clear f3
                        have hKeep : ∀ wr : World, Below w2.heap.size w2 wr → True := fun _ _ => trivial
                        go_loopw [3, 81] (fun nv i wr => ∃ (j : Nat) (x : Int), j ≤ tn ∧ i = .int .i64 j ∧ nv = .int .i64 x ∧ 0 ≤ x ∧ x ≤ (210000 + 13000 * (k : Int) + 1000) + 1000 * (j : Int) ∧ Hid (hvM m = k2 m (hvC (m.sys.drop (k + 1)) (hvS (cc.sets.drop j) x))) ∧ Below wc.heap.size wc wr) (fun _ i _ => tn - (intOf i).toNat)
                        case atStart => exact ⟨0, _, by omega, rfl, rfl, by omega, by omega, HE2, Below.refl _ _⟩
                        case round =>
                          clear HE2
                          obtain ⟨j, x, hj, rfl, rfl, hx1, hx2, HE2, hbw2⟩ := hrel
                          have hzr2 := hbw2.size
                          by_cases hlt2 : j < tn
                          · have hlt2' : ((j : Int) < (tn : Int)) := by omega
                            obtain ⟨b2, off2, s, eA3, hbB2, hku2, ⟨c0, c1, ⟨so, sm, sO, sl2, sc2⟩, ⟨c2, c3, c4⟩, ⟨ds, hes⟩⟩⟩ := (Hrs.out.keep (w' := wr) (fun b o y h1 hy => SetAt.keep h1 hy (fun p hp => (hbw2.mono (by omega)).cell hp))).at_ (k := j) hlt2
                            simp only at eA3 c0 c1 c2 c3 c4 hes
                            subst eA3
                            obtain ⟨z, p, te⟩ := s
                            simp only at c0 c1 hes
                            have Hku2 := hide hku2
                            clear hku2
                            have hbA := (Below.refl wr.heap.size wr).alloc (Nat.le_refl _) (.cells #[.int .i64 z, .bool p, .int .i64 so, .int .i64 sm, .slice sO sl2 sc2] 42)
                            have Hes := hide (hes.below (hbA.mono (by omega)))
                            have HbA := hide (hbw2.trans (hbA.mono hzr2))
                            have hzA : wr.heap.size + 1 ≤ (wr.alloc (.cells #[.int .i64 z, .bool p, .int .i64 so, .int .i64 sm, .slice sO sl2 sc2] 42)).heap.size := by simp
                            obtain ⟨d0, d1, d2, d3, d4⟩ := box5_new wr z p so sm sO sl2 sc2
                            clear hes hbA hbw2
                            go_wp2_with fail
                            clear c0 c1 c2 c3 c4 d0 d1 d2 d3 d4
                            generalize wr.alloc (.cells #[.int .i64 z, .bool p, .int .i64 so, .int .i64 sm, .slice sO sl2 sc2] 42) = W1 at *
                            refine (heavy_any B ds so sm sO sl2 sc2 te W1 (by omega) Hes.out).mono ?_
                            rintro e wd ⟨rfl, hbd⟩
                            have Hbc2 := hide (HbA.out.trans (hbd.mono (by omega)))
                            obtain ⟨y1, y2⟩ := heavy_bd te
                            have HE3 : Hid (hvM m = k2 m (hvC (m.sys.drop (k + 1)) (hvS (cc.sets.drop (j + 1)) (x + heavyE te)))) := hide (by rw [HE2.out, hvS_on x Hku2.out])
                            clear hbd HbA Hes
                            generalize heavyE te = y at *
                            go_wp2_with fail
                            go_roundw
                            case rel => exact ⟨j + 1, x + y, by omega, by go_num, by go_num, by omega, by omega, HE3, Hbc2.out⟩
                            case measure => simp [intOf]; omega
                          · have hlt2' : ¬ ((j : Int) < (tn : Int)) := by omega
                            go_wp2_with fail
                            go_roundw
                            case rel => exact ⟨k + 1, x, by omega, by go_num, rfl, by omega, by omega, hide (by rw [HE2.out, hvS_end x (by rw [Htn.out]; omega)]), Hbc.out.trans (hbw2.mono (by omega))⟩
                            case measure => simp [intOf]; omega
                    · have hlt' : ¬ ((k : Int) < (sn : Int)) := by omega
                      go_wp2_with fail
                      go_roundw
                      case rel => exact ⟨x, rfl, by omega, .inr (.inr ⟨rfl, by omega, hide (by rw [HE.out, hvC_end x (by rw [HL.out.2.1]; show sn ≤ k; omega)]; rfl)⟩), hbw⟩
                      case measure => simp [intOf]
                · obtain ⟨w3, rfl⟩ : ∃ w3, w3 = wr := ⟨_, rfl⟩
                  have hbn := hbo
                  clear hbo
                  have hz3 := hbn.size
                  have Hb3 := hide (Hb2.out.trans (hbn.mono (by omega)))
                  have Hrm3 := hide (Hrm2.out.below (hbn.mono (by omega)))
                  have Hbx3 := hide (Hbx2.out.below hbn (by omega))
                  clear hbn Hb2 Hrm2 Hbx2
                  have r3 : w3.cell? ⟨w.heap.size, 9, none⟩ = some (.slice aA an ac) := Hbx3.out 9 _ rfl
                  have r4 : w3.cell? ⟨w.heap.size, 10, none⟩ = some (.slice nA nn nc) := Hbx3.out 10 _ rfl
                  have r5 : w3.cell? ⟨w.heap.size, 11, none⟩ = some (.slice pA pn pc) := Hbx3.out 11 _ rfl
                  go_wp2_with fail
                  clear r3 r4 r5
                  go_loopw [3, 100] (fun nv i wr => ∃ x : Int, nv = .int .i64 x ∧ 0 ≤ x ∧ ((i = .int .i64 0 ∧ x ≤ 418000 ∧ Hid (hvM m = k3 m x)) ∨ (i = .int .i64 1 ∧ x ≤ 426000 ∧ Hid (hvM m = hvE m.prio (hvE m.ens x))) ∨ (i = .int .i64 2 ∧ x ≤ 434000 ∧ Hid (hvM m = hvE m.prio x)) ∨ (i = .int .i64 3 ∧ x ≤ 442000 ∧ Hid (hvM m = x))) ∧ Below w3.heap.size w3 wr) (fun _ i _ => 3 - (intOf i).toNat)
                  case atStart => exact ⟨_, rfl, by omega, .inl ⟨rfl, by omega, HE⟩, Below.refl _ _⟩
                  case round =>
                    obtain ⟨x, rfl, hx1, hi, hbo⟩ := hrel
                    clear HE
                    rcases hi with ⟨rfl, hx2, HE⟩ | ⟨rfl, hx2, HE⟩ | ⟨rfl, hx2, HE⟩ | ⟨rfl, hx2, HE⟩
                    · have hix : ∀ w : World, (Instr.index 43 (.agg #[.slice aA an ac, .slice nA nn nc, .slice pA pn pc]) (.int .i64 0)).run Tryz.prog w = .ok (.slice aA an ac) w := by
                        intro w
                        kernel_rfl
                      obtain ⟨wo, rfl⟩ : ∃ wo, wo = wr := ⟨_, rfl⟩
                      go_wp2_with fail
                      clear hix
                      go_loopw [3, 105] (fun nv i wr => ∃ (k : Nat) (x : Int), k ≤ an ∧ i = .int .i64 k ∧ nv = .int .i64 x ∧ 0 ≤ x ∧ x ≤ 418000 + 1000 * (k : Int) ∧ Hid (hvM m = hvE m.prio (hvE m.ens (hvE (m.asm.drop k) x))) ∧ Below w3.heap.size w3 wr) (fun _ i _ => an - (intOf i).toNat)
                      case atStart => exact ⟨0, _, by omega, rfl, rfl, by omega, by omega, HE, hbo⟩
                      case round =>
                        clear HE
                        obtain ⟨k, x, hk, rfl, rfl, hx1, hx2, HE, hbw⟩ := hrel
                        have hzr := hbw.size
                        by_cases hlt : k < an
                        · have hlt' : ((k : Int) < (an : Int)) := by omega
                          obtain ⟨b, off, te, eA2, hbB, hku, ⟨⟨go, gn, gA, gl, gc⟩, ⟨c0, c1, c2⟩, ⟨dg, hex⟩⟩⟩ := ((Hrm3.out.2.2.2.2.2.2.1).keep (w' := wr) (fun b o y h1 hy => ExAt.keep h1 hy (fun p hp => (hbw.mono (by omega)).cell hp))).at_ (k := k) hlt
                          simp only at eA2 c0 c1 c2 hex
                          subst eA2
                          have Hku := hide hku
                          clear hku
                          have hbA := (Below.refl wr.heap.size wr).alloc (Nat.le_refl _) (.cells #[.int .i64 go, .int .i64 gn, .slice gA gl gc] 25)
                          have Hex := hide (hex.below (hbA.mono (by omega)))
                          have HbA := hide (hbw.trans (hbA.mono hzr))
                          have hzA : wr.heap.size + 1 ≤ (wr.alloc (.cells #[.int .i64 go, .int .i64 gn, .slice gA gl gc] 25)).heap.size := by simp
                          obtain ⟨f0, f1, f2⟩ := box_new wr go gn gA gl gc 25
                          clear hex hbA hbw
                          go_wp2_with fail
                          clear c0 c1 c2 f0 f1 f2
                          generalize wr.alloc (.cells #[.int .i64 go, .int .i64 gn, .slice gA gl gc] 25) = W1 at *
                          refine (heavy_any B dg go gn gA gl gc te W1 (by omega) Hex.out).mono ?_
                          rintro e wc ⟨rfl, hbc⟩
                          have Hbc := hide (HbA.out.trans (hbc.mono (by omega)))
                          obtain ⟨y1, y2⟩ := heavy_bd te
                          have HE3 : Hid (hvM m = hvE m.prio (hvE m.ens (hvE (m.asm.drop (k + 1)) (x + heavyE te)))) := hide (by rw [HE.out, hvE_on x Hku.out])
                          clear hbc HbA Hex
                          generalize heavyE te = y at *
                          go_wp2_with fail
                          go_roundw
                          case rel => exact ⟨k + 1, x + y, by omega, by go_num, by go_num, by omega, by omega, HE3, Hbc.out⟩
                          case measure => simp [intOf]; omega
                        · have hlt' : ¬ ((k : Int) < (an : Int)) := by omega
                          go_wp2_with fail
                          go_roundw
                          case rel => exact ⟨x, rfl, by omega, .inr (.inl ⟨rfl, by omega, hide (by rw [HE.out, hvE_end x (by rw [HL.out.2.2.1]; show an ≤ k; omega)])⟩), hbw⟩
                          case measure => simp [intOf]
                    · have hix : ∀ w : World, (Instr.index 43 (.agg #[.slice aA an ac, .slice nA nn nc, .slice pA pn pc]) (.int .i64 1)).run Tryz.prog w = .ok (.slice nA nn nc) w := by
                        intro w
                        kernel_rfl
                      obtain ⟨wo, rfl⟩ : ∃ wo, wo = wr := ⟨_, rfl⟩
                      go_wp2_with fail
                      clear hix
                      go_loopw [3, 105] (fun nv i wr => ∃ (k : Nat) (x : Int), k ≤ nn ∧ i = .int .i64 k ∧ nv = .int .i64 x ∧ 0 ≤ x ∧ x ≤ 426000 + 1000 * (k : Int) ∧ Hid (hvM m = hvE m.prio (hvE (m.ens.drop k) x)) ∧ Below w3.heap.size w3 wr) (fun _ i _ => nn - (intOf i).toNat)
                      case atStart => exact ⟨0, _, by omega, rfl, rfl, by omega, by omega, HE, hbo⟩
                      case round =>
                        clear HE
                        obtain ⟨k, x, hk, rfl, rfl, hx1, hx2, HE, hbw⟩ := hrel
                        have hzr := hbw.size
                        by_cases hlt : k < nn
                        · have hlt' : ((k : Int) < (nn : Int)) := by omega
                          obtain ⟨b, off, te, eA2, hbB, hku, ⟨⟨go, gn, gA, gl, gc⟩, ⟨c0, c1, c2⟩, ⟨dg, hex⟩⟩⟩ := ((Hrm3.out.2.2.2.2.2.2.2.1).keep (w' := wr) (fun b o y h1 hy => ExAt.keep h1 hy (fun p hp => (hbw.mono (by omega)).cell hp))).at_ (k := k) hlt
                          simp only at eA2 c0 c1 c2 hex
                          subst eA2
                          have Hku := hide hku
                          clear hku
                          have hbA := (Below.refl wr.heap.size wr).alloc (Nat.le_refl _) (.cells #[.int .i64 go, .int .i64 gn, .slice gA gl gc] 25)
                          have Hex := hide (hex.below (hbA.mono (by omega)))
                          have HbA := hide (hbw.trans (hbA.mono hzr))
                          have hzA : wr.heap.size + 1 ≤ (wr.alloc (.cells #[.int .i64 go, .int .i64 gn, .slice gA gl gc] 25)).heap.size := by simp
                          obtain ⟨f0, f1, f2⟩ := box_new wr go gn gA gl gc 25
                          clear hex hbA hbw
                          go_wp2_with fail
                          clear c0 c1 c2 f0 f1 f2
                          generalize wr.alloc (.cells #[.int .i64 go, .int .i64 gn, .slice gA gl gc] 25) = W1 at *
                          refine (heavy_any B dg go gn gA gl gc te W1 (by omega) Hex.out).mono ?_
                          rintro e wc ⟨rfl, hbc⟩
                          have Hbc := hide (HbA.out.trans (hbc.mono (by omega)))
                          obtain ⟨y1, y2⟩ := heavy_bd te
                          have HE3 : Hid (hvM m = hvE m.prio (hvE (m.ens.drop (k + 1)) (x + heavyE te))) := hide (by rw [HE.out, hvE_on x Hku.out])
                          clear hbc HbA Hex
                          generalize heavyE te = y at *
                          go_wp2_with fail
                          go_roundw
                          case rel => exact ⟨k + 1, x + y, by omega, by go_num, by go_num, by omega, by omega, HE3, Hbc.out⟩
                          case measure => simp [intOf]; omega
                        · have hlt' : ¬ ((k : Int) < (nn : Int)) := by omega
                          go_wp2_with fail
                          go_roundw
                          case rel => exact ⟨x, rfl, by omega, .inr (.inr (.inl ⟨rfl, by omega, hide (by rw [HE.out, hvE_end x (by rw [HL.out.2.2.2.1]; show nn ≤ k; omega)])⟩)), hbw⟩
                          case measure => simp [intOf]
                    · have hix : ∀ w : World, (Instr.index 43 (.agg #[.slice aA an ac, .slice nA nn nc, .slice pA pn pc]) (.int .i64 2)).run Tryz.prog w = .ok (.slice pA pn pc) w := by
                        intro w
                        kernel_rfl
                      obtain ⟨wo, rfl⟩ : ∃ wo, wo = wr := ⟨_, rfl⟩
                      go_wp2_with fail
                      clear hix
                      go_loopw [3, 105] (fun nv i wr => ∃ (k : Nat) (x : Int), k ≤ pn ∧ i = .int .i64 k ∧ nv = .int .i64 x ∧ 0 ≤ x ∧ x ≤ 434000 + 1000 * (k : Int) ∧ Hid (hvM m = (hvE (m.prio.drop k) x)) ∧ Below w3.heap.size w3 wr) (fun _ i _ => pn - (intOf i).toNat)
                      case atStart => exact ⟨0, _, by omega, rfl, rfl, by omega, by omega, HE, hbo⟩
                      case round =>
                        clear HE
                        obtain ⟨k, x, hk, rfl, rfl, hx1, hx2, HE, hbw⟩ := hrel
                        have hzr := hbw.size
                        by_cases hlt : k < pn
                        · have hlt' : ((k : Int) < (pn : Int)) := by omega
                          obtain ⟨b, off, te, eA2, hbB, hku, ⟨⟨go, gn, gA, gl, gc⟩, ⟨c0, c1, c2⟩, ⟨dg, hex⟩⟩⟩ := ((Hrm3.out.2.2.2.2.2.2.2.2).keep (w' := wr) (fun b o y h1 hy => ExAt.keep h1 hy (fun p hp => (hbw.mono (by omega)).cell hp))).at_ (k := k) hlt
                          simp only at eA2 c0 c1 c2 hex
                          subst eA2
                          have Hku := hide hku
                          clear hku
                          have hbA := (Below.refl wr.heap.size wr).alloc (Nat.le_refl _) (.cells #[.int .i64 go, .int .i64 gn, .slice gA gl gc] 25)
                          have Hex := hide (hex.below (hbA.mono (by omega)))
                          have HbA := hide (hbw.trans (hbA.mono hzr))
                          have hzA : wr.heap.size + 1 ≤ (wr.alloc (.cells #[.int .i64 go, .int .i64 gn, .slice gA gl gc] 25)).heap.size := by simp
                          obtain ⟨f0, f1, f2⟩ := box_new wr go gn gA gl gc 25
                          clear hex hbA hbw
                          go_wp2_with fail
                          clear c0 c1 c2 f0 f1 f2
                          generalize wr.alloc (.cells #[.int .i64 go, .int .i64 gn, .slice gA gl gc] 25) = W1 at *
                          refine (heavy_any B dg go gn gA gl gc te W1 (by omega) Hex.out).mono ?_
                          rintro e wc ⟨rfl, hbc⟩
                          have Hbc := hide (HbA.out.trans (hbc.mono (by omega)))
                          obtain ⟨y1, y2⟩ := heavy_bd te
                          have HE3 : Hid (hvM m = (hvE (m.prio.drop (k + 1)) (x + heavyE te))) := hide (by rw [HE.out, hvE_on x Hku.out])
                          clear hbc HbA Hex
                          generalize heavyE te = y at *
                          go_wp2_with fail
                          go_roundw
                          case rel => exact ⟨k + 1, x + y, by omega, by go_num, by go_num, by omega, by omega, HE3, Hbc.out⟩
                          case measure => simp [intOf]; omega
                        · have hlt' : ¬ ((k : Int) < (pn : Int)) := by omega
                          go_wp2_with fail
                          go_roundw
                          case rel => exact ⟨x, rfl, by omega, .inr (.inr (.inr ⟨rfl, by omega, hide (by rw [HE.out, hvE_end x (by rw [HL.out.2.2.2.2]; show pn ≤ k; omega)])⟩)), hbw⟩
                          case measure => simp [intOf]
                    · have Hbf := hide (Hb3.out.trans (hbo.mono (by have := Hb3.out.size; omega)))
                      go_wp2_with fail
                      go_ret
                      exact ⟨ret_int HE.out.symm, Hbf.out⟩
def HvyPost (w : World) (e : Ending) (w' : World) : Prop := ∃ x : Int, e = .returned (.int .i64 x) ∧ 0 ≤ x ∧ x ≤ 1000000 ∧ Below w.heap.size w w'
theorem hvy_any (B : Nat) (x : M8) (m : MT) (w : World) (hB : B ≤ w.heap.size) (hrm : RM w B x m) : Calls Tryz.prog 4 #[.agg x.cells] w (HvyPost w) :=
  (hvx_any B x m w hB hrm).mono fun _ _ ⟨he, hb⟩ => ⟨_, he, (hvM_bd m).1, (hvM_bd m).2, hb⟩
end Go.Proofs.YtjpphjmehgflpaaGreatDoor
