/- The walk of the statement ExprKids. -/
import Derived.Test.YtjllnnbnhkmjkaaKMath
namespace Go.Proofs.Ytjllnnbnhkmjkaa
open Go.RowKit
open Go.Sort (grow)
set_option linter.unusedSimpArgs false
set_option linter.unusedVariables false

set_option maxRecDepth 100000 in
set_option maxHeartbeats 40000000 in
theorem kidsLaw_any (B d : Nat) (op n : Int) (A : Option Addr) (len cap : Nat) (t : T) (w : World) (hB : B ≤ w.heap.size) (hre : RE w B (d + 1) op n A len cap t) :
    Calls Try.prog 4 #[.agg #[.int .i64 op, .int .i64 n, .slice A len cap]] w fun e w' => e = .returned (.bool true) ∧ Below w.heap.size w w' := by
  have hbx : Below w.heap.size w (w.alloc (.cells #[.int .i64 op, .int .i64 n, .slice A len cap] 24)) := (Below.refl _ _).alloc (Nat.le_refl _) _
  have hz0 : (w.alloc (.cells #[.int .i64 op, .int .i64 n, .slice A len cap] 24)).heap.size = w.heap.size + 1 := by simp
  have Hre := hide (hre.below (hbx.mono hB))
  have Hbox := hide (box_new w op n A len cap 24)
  have Hbx := hide hbx
  have Htm := hide hre.eq_mk
  obtain ⟨hlen, hlc, hcm⟩ := hre.bound
  have Hlen := hide hlen
  unfold maxLen at hcm
  clear hre hbx hlen
  obtain ⟨h1a, h1b⟩ := heavy_bd t
  go_enter Try.func4, Try.ntmps4
  go_wp2_with fail
  generalize w.alloc (.cells #[.int .i64 op, .int .i64 n, .slice A len cap] 24) = W at *
  refine (heavy_any B (d + 1) op n A len cap t W (by omega) Hre.out).mono ?_
  rintro e w1 ⟨rfl, hb1⟩
  have hz1 := hb1.size
  have Hb1 := hide (Hbx.out.trans (hb1.mono (by omega)))
  have Hre1 := hide (Hre.out.below (hb1.mono (by omega)))
  have Hbox1 := hide (Hbox.out.below hb1 (by omega))
  clear hb1 Hre Hbox Hbx
  by_cases hh : 0 < heavyE t
  · have hhb : decide (0 < heavyE t) = true := by simp [hh]
    go_wp2_with fail
    refine (awake_any _).mono ?_
    rintro e w4 ⟨rfl, hb4⟩
    have Hf := hide (Hb1.out.trans (hb4.mono (by omega)))
    clear hb4
    go_wp2_with fail
    go_ret
    exact ⟨rfl, Hf.out⟩
  · have hhb : decide (0 < heavyE t) = false := by simp; omega
    obtain ⟨a0, a1, a2⟩ := Hbox1.out
    go_wp2_with fail
    clear a0 a1 a2 h1a h1b hh hhb
    refine (may_any B (d + 1) op n A len cap t w1 (by omega) Hre1.out).mono ?_
    rintro e w2 ⟨rfl, hb2⟩
    have hz2 := hb2.size
    have Hb2 := hide (Hb1.out.trans (hb2.mono (by omega)))
    have Hre2 := hide (Hre1.out.below (hb2.mono (by omega)))
    have Hbox2 := hide (Hbox1.out.below hb2 (by omega))
    have hzW : w.heap.size + 1 ≤ w2.heap.size := by omega
    clear hb2 Hre1 Hbox1 Hb1 hz0 hz1 hz2
    by_cases hm : mayE t = 0
    · have m1 : (mayE t != 0) = false := by simp [hm]
      have Hm := hide hm
      have Hnn : Hid ((op = 3 ∨ op = 4) → 0 ≤ n ∧ n < 6) := hide (fun ho => by
        have e := Htm.out
        have h := sound_n (op := op) ((may_iff t).1 hm).2 ho (by rw [e]; rfl)
        rw [show t.n = n by rw [e]; rfl] at h
        exact h)
      clear hm
      go_wp2_with fail
      clear m1
      go_loopw [37] (fun i wr => ∃ k : Nat, k ≤ 2 ∧ i = .int .i64 k ∧ Below w2.heap.size w2 wr) (fun i _ => 2 - (intOf i).toNat)
      case atStart => exact ⟨0, by omega, rfl, Below.refl _ _⟩
      case round =>
        obtain ⟨k0, hk0, rfl, hbR⟩ := hrel
        have HbR := hide hbR
        clear hbR
        have hk : k0 = 0 ∨ k0 = 1 ∨ k0 = 2 := by omega
        rcases hk with rfl | rfl | rfl
        · have hzr := HbR.out.size
          have Hox : Hid (opOf false = 3) := hide rfl
          have hix0 := nx_idx0 wr
          have hinb : Below wr.heap.size wr (wr.alloc (.cells #[.int .i64 0, .int .i64 0, .int .i64 0, .int .i64 0, .int .i64 0, .int .i64 0] 36)) := (Below.refl _ _).alloc (Nat.le_refl _) _
          have Hrow0 := hide (in_new wr)
          have hzi : (wr.alloc (.cells #[.int .i64 0, .int .i64 0, .int .i64 0, .int .i64 0, .int .i64 0, .int .i64 0] 36)).heap.size = wr.heap.size + 1 := by simp
          have HinB := hide hinb
          clear hinb
          obtain ⟨f0, f1, f2⟩ := Hbox2.out.below (HbR.out.trans (HinB.out.mono hzr)) (by omega)
          obtain ⟨wA, rfl⟩ : ∃ wA, wA = wr := ⟨_, rfl⟩
          go_wp2_with fail
          clear f0 f1 f2 hix0
          generalize wA.alloc (.cells #[.int .i64 0, .int .i64 0, .int .i64 0, .int .i64 0, .int .i64 0, .int .i64 0] 36) = w3 at *
          go_loopw [43] (fun i wr => ∃ k : Nat, k ≤ len ∧ i = .int .i64 k ∧ wr.rowIs wA.heap.size 36 6 (inV fun i => rdK (t.kids.take k) 3 i) ∧ Below wA.heap.size wA wr ∧ wA.heap.size + 1 ≤ wr.heap.size) (fun i _ => len - (intOf i).toNat)
          case atStart => exact ⟨0, by omega, rfl, Hrow0.out.congr (fun i _ => by simp [inV, rdK]), HinB.out, by omega⟩
          case round =>
            obtain ⟨k, hk, rfl, hrow, hb, hz⟩ := hrel
            have Hrow := hide hrow
            have Hb := hide hb
            clear hrow hb
            by_cases hlt : k < len
            · have hlt' : ((k : Int) < (len : Int)) := by omega
              obtain ⟨b, off, u, op2, n2, A2, l2, c2, rfl, hbB, hku, ⟨c0, c1, cs⟩, hre2⟩ := (Hre2.out.below ((HbR.out.trans (Hb.out.mono hzr)).mono (by omega))).at_ hlt
              have Hmu := hide (may_kid Hm.out hku)
              have Htk : Hid (∀ i, rdK (t.kids.take (k + 1)) 3 i = (rdK (t.kids.take k) 3 i || rdT u 3 i)) := hide (fun i => by
                obtain ⟨hkl, e⟩ := List.getElem?_eq_some_iff.1 hku
                rw [List.take_succ_eq_append_getElem hkl, rdK_snoc, e])
              clear hku
              have Hre3 := hide (hre2.below ((Below.refl B wr).alloc (by omega) (.cells #[.int .i64 op2, .int .i64 n2, .slice A2 l2 c2] 24)))
              clear hre2
              obtain ⟨xs, hxs⟩ : ∃ xs, readsE u false = xs := ⟨_, rfl⟩
              obtain ⟨m, hm⟩ : ∃ m, xs.length = m := ⟨_, rfl⟩
              have hm6 : m ≤ 6 := by
                rw [← hm, ← hxs, reads_good Hmu.out]
                exact pickTo_len _ _
              have Hxp : Hid (xs = pickTo (fun i => rdT u 3 i) 6) := hide (by rw [← hxs, reads_good Hmu.out, Hox.out])
              have Hxs := hide hxs
              have Hmm := hide hm
              clear hxs hm
              have hz5 : (wr.alloc (.cells #[.int .i64 op2, .int .i64 n2, .slice A2 l2 c2] 24)).heap.size = wr.heap.size + 1 := by simp
              have Hrow4 := hide (Hrow.out.alloc (.cells #[.int .i64 op2, .int .i64 n2, .slice A2 l2 c2] 24))
              have Hb4 := hide (Hb.out.alloc (by omega) (.cells #[.int .i64 op2, .int .i64 n2, .slice A2 l2 c2] 24))
              go_wp2_with fail
              refine (reads_row xs m Hxs Hmm (by omega) Hre3.out).mono ?_
              rintro e w5 ⟨O, c, rfl, hrj, hb5⟩
              have hzw := hb5.size
              have Hrow5 := hide (Hrow4.out.of_block (hb5.block _ (by omega)))
              have Hb5 := hide (Hb4.out.trans (hb5.mono (by omega)))
              have Hrj := hide hrj
              clear hb5 hrj c0 c1 cs Hre3 Hrow4 Hb4 Hrow Hb Hxs
              rw [hz5] at Hrj
              obtain ⟨wB, rfl⟩ : ∃ wB, wB = wr := ⟨_, rfl⟩
              generalize wB.alloc (.cells #[.int .i64 op2, .int .i64 n2, .slice A2 l2 c2] 24) = wK at *
              go_wp2_with fail
              go_loopw [51] (fun i wr => ∃ j : Nat, j ≤ m ∧ i = .int .i64 j ∧ wr.rowIs wA.heap.size 36 6 (inV fun i => rdK (t.kids.take k) 3 i || decide ((i : Int) ∈ xs.take j)) ∧ Onl wA.heap.size w5 wr ∧ Below wA.heap.size wA wr) (fun i _ => m - (intOf i).toNat)
              case atStart => exact ⟨0, by omega, rfl, Hrow5.out.congr (fun i _ => by simp [inV]), Onl.refl _ _, Hb5.out⟩
              case round =>
                obtain ⟨j, hj, rfl, hrw, hon, hbj⟩ := hrel
                have Hrw := hide hrw
                have Hon := hide hon
                have Hbj := hide hbj
                clear hrw hon hbj
                have hzj := Hbj.out.size
                have hzo := Hon.out.size
                by_cases hjl : j < m
                · have hjl' : ((j : Int) < (m : Int)) := by omega
                  obtain ⟨bb, bo, x, rfl, hlo, hbb, hx, cx⟩ := (Hrj.out.keep (fun p h1 h2 => Hon.out.cell (by omega) (by omega))).at_ hjl
                  have Htm2 := hide (take_mem hx)
                  have hxm : x ∈ pickTo (fun i => rdT u 3 i) 6 := by rw [← Hxp.out]; exact List.mem_of_getElem? hx
                  obtain ⟨q, hq6, _, rfl⟩ := (pickTo_mem _ _ _).1 hxm
                  clear hxm hx
                  have hq6' : (q : Int) < 6 := by omega
                  have q1 : decide ((q : Int) < 0) = false := by rw [decide_eq_false_iff_not]; omega
                  have q2 : decide ((6 : Int) ≤ (q : Int)) = false := by rw [decide_eq_false_iff_not]; omega
                  obtain ⟨v0, hv0⟩ : ∃ v, wr.cell? ⟨wA.heap.size, q, none⟩ = some v := ⟨_, Hrw.out.cell hq6⟩
                  have hfz := Hrw.out.frozen q
                  have Hset := hide ((in_set Hrw.out q).congr (g := inV fun i => rdK (t.kids.take k) 3 i || decide ((i : Int) ∈ xs.take (j + 1))) (fun i _ => inV_eq (by rw [Htm2.out i, Bool.or_assoc])))
                  have Hon2 := hide (Hon.out.set q (.int .i64 1))
                  have Hbj2 : Hid (Below wA.heap.size wA (wr.setCell ⟨wA.heap.size, q, none⟩ (.int .i64 1))) := hide (Hbj.out.setCell (by exact Nat.le_refl _) _)
                  go_wp2_with fail
                  go_roundw
                  case rel => exact ⟨j + 1, by omega, by go_num, Hset.out, Hon2.out, Hbj2.out⟩
                  case measure => simp [intOf]; omega
                · have hjl' : ¬ ((j : Int) < (m : Int)) := by omega
                  have hjm : j = m := by omega
                  have Hfin := hide (Hrw.out.congr (g := inV fun i => rdK (t.kids.take (k + 1)) 3 i) (fun i hi => by
                    refine inV_eq ?_
                    rw [Htk.out i, List.take_of_length_le (show xs.length ≤ j by rw [Hmm.out]; omega), Hxp.out, pick_marks _ i hi]))
                  go_wp2_with fail
                  go_roundw
                  case rel => exact ⟨_, _, _, _, ⟨k + 1, by omega, by go_num, Hfin.out, Hbj.out, by omega⟩, rfl, rfl, rfl, rfl⟩
                  case measure => simp [intOf]; omega
            · have hlt' : ¬ ((k : Int) < (len : Int)) := by omega
              have Hrow2 := hide (Hrow.out.congr (g := inV fun i => rdK t.kids 3 i) (fun i _ => by
                refine inV_eq ?_; rw [List.take_of_length_le (by rw [Hlen.out]; omega)]))
              clear Hrow
              have hzb := Hb.out.size
              have Hbw := hide (HbR.out.trans (Hb.out.mono hzr))
              obtain ⟨f0, f1, f2⟩ := Hbox2.out.below Hbw.out (by omega)
              obtain ⟨xs, hxs⟩ : ∃ xs, readsE t false = xs := ⟨_, rfl⟩
              obtain ⟨m, hm⟩ : ∃ m, xs.length = m := ⟨_, rfl⟩
              have hm6 : m ≤ 6 := by
                rw [← hm, ← hxs, reads_good Hm.out]
                exact pickTo_len _ _
              have Hxp : Hid (xs = pickTo (fun i => rdT t 3 i) 6) := hide (by rw [← hxs, reads_good Hm.out, Hox.out])
              have Hxs := hide hxs
              have Hmm := hide hm
              clear hxs hm
              by_cases hop : op = 3
              · have p1 : (op == 3) = true := by simp [hop]
                obtain ⟨n0, n6⟩ := Hnn.out (by omega)
                obtain ⟨q, rfl⟩ := Int.eq_ofNat_of_zero_le n0
                have hq6 : q < 6 := by omega
                have hq6' : (q : Int) < 6 := by omega
                have q1 : decide ((q : Int) < 0) = false := by rw [decide_eq_false_iff_not]; omega
                have q2 : decide ((6 : Int) ≤ (q : Int)) = false := by rw [decide_eq_false_iff_not]; omega
                have Hrd : Hid (∀ i : Nat, (rdK t.kids 3 i || ((i : Int) == (q : Int))) = rdT t 3 i) := hide (fun i => by
                  have e := Htm.out
                  rw [rdT_eq, show t.op = op by rw [e]; rfl, show t.n = (q : Int) by rw [e]; rfl, hop]
                  rw [Bool.or_comm]
                  congr 1
                  by_cases h : i = q
                  · subst h; simp
                  · have h1 : ((i : Int) == (q : Int)) = false := by rw [beq_eq_false_iff_ne]; omega
                    have h2 : ((q : Int) == (i : Int)) = false := by rw [beq_eq_false_iff_ne]; omega
                    rw [h1, h2]; simp)
                obtain ⟨v0, hv0⟩ : ∃ v, wr.cell? ⟨wA.heap.size, q, none⟩ = some v := ⟨_, Hrow2.out.cell hq6⟩
                have hfz := Hrow2.out.frozen q
                have Hset := hide ((in_set Hrow2.out q).congr (g := inV fun i => rdT t 3 i) (fun i _ => inV_eq (by rw [Hrd.out i])))
                have Hon2 : Hid (Below w2.heap.size w2 (wr.setCell ⟨wA.heap.size, q, none⟩ (.int .i64 1))) := hide (Hbw.out.setCell (by exact hzr) _)
                clear hop n0 n6
                obtain ⟨g0, g1, g2⟩ := Hbox2.out.below Hon2.out (by omega)
                go_wp2_with fail
                clear f0 f1 f2 g0 g1 g2 hv0 hfz
                have hzS : (wr.setCell ⟨wA.heap.size, q, none⟩ (.int .i64 1)).heap.size = wr.heap.size := by simp [World.setCell]
                generalize wr.setCell ⟨wA.heap.size, q, none⟩ (.int .i64 1) = w6 at *
                refine (reads_row xs m Hxs Hmm (by have := Hon2.out.size; omega) (Hre2.out.below (Hon2.out.mono (by omega)))).mono ?_
                rintro e w7 ⟨O, c, rfl, hrj, hb7⟩
                have hz7 := hb7.size
                have hzN := Hon2.out.size
                have Hrow7 := hide (Hset.out.of_block (hb7.block _ (by have := Hset.out.lt; omega)))
                have Hb7 := hide (Hon2.out.trans (hb7.mono (by omega)))
                have Hrj := hide hrj
                clear hb7 hrj Hset Hxs
                generalize hFF : (fun i => rdT t 3 i) = F at *
                go_wp2_with fail
                go_loopw [11, 95] (fun a i wr => ∃ j : Nat, j ≤ m ∧ i = .int .i64 j ∧ a = .int .i64 j ∧ wr = w7) (fun _ i _ => m - (intOf i).toNat)
                case atStart => exact ⟨0, by omega, rfl, rfl, rfl⟩
                case round =>
                  obtain ⟨j, hj, rfl, rfl, rfl⟩ := hrel
                  by_cases hjl : j < m
                  · have hjl' : ((j : Int) < (m : Int)) := by omega
                    obtain ⟨bb, bo, x, rfl, hlo, hbb, hx, cx⟩ := Hrj.out.at_ hjl
                    have hxm : x ∈ pickTo F 6 := by rw [← Hxp.out]; exact List.mem_of_getElem? hx
                    obtain ⟨q, hq6, hFq, rfl⟩ := (pickTo_mem _ _ _).1 hxm
                    clear hxm hx
                    have hq6' : (q : Int) < 6 := by omega
                    have q1 : decide ((q : Int) < 0) = false := by rw [decide_eq_false_iff_not]; omega
                    have q2 : decide ((6 : Int) ≤ (q : Int)) = false := by rw [decide_eq_false_iff_not]; omega
                    have hcq : wr.cell? ⟨wA.heap.size, q, none⟩ = some (.int .i64 1) := by
                      have := Hrow7.out.cell hq6
                      rw [inV, if_pos hFq] at this; exact this
                    go_wp2_with fail
                    go_roundw
                    case rel => exact ⟨j + 1, by omega, by go_num, by go_num, by first | rfl | trivial⟩
                    case measure => simp [intOf]; omega
                  · have hjl' : ¬ ((j : Int) < (m : Int)) := by omega
                    obtain rfl : j = m := by omega
                    have a0 := Hrow7.out.cell (i := 0) (by omega)
                    have a1 := Hrow7.out.cell (i := 1) (by omega)
                    have a2 := Hrow7.out.cell (i := 2) (by omega)
                    have a3 := Hrow7.out.cell (i := 3) (by omega)
                    have a4 := Hrow7.out.cell (i := 4) (by omega)
                    have a5 := Hrow7.out.cell (i := 5) (by omega)
                    have hpm : (pickTo F 6).length = j := by rw [← Hxp.out]; exact Hmm.out
                    have Hpm := hide hpm
                    clear hpm
                    go_wp2_with fail
                    clear a0 a1 a2 a3 a4 a5
                    obtain ⟨wE, rfl⟩ : ∃ wE, wE = wr := ⟨_, rfl⟩
                    go_loopw [11, 115] (fun a i wr => ∃ (p l : Nat), p ≤ 6 ∧ i = .int .i64 p ∧ l ≤ p ∧ Hid ((pickTo F p).length = l) ∧ a = .int .i64 ((j : Int) - (l : Int)) ∧ wr = wE) (fun _ i _ => 6 - (intOf i).toNat)
                    case atStart => exact ⟨0, 0, by omega, rfl, by omega, hide rfl, by simp, rfl⟩
                    case round =>
                      obtain ⟨p, l, hp, rfl, hlp, HL, rfl, rfl⟩ := hrel
                      by_cases hpl : p < 6
                      · have hpl' : ((p : Int) < 6) := by omega
                        have hix := in_idx F p hpl
                        have Hps := hide (pickTo_succ F p)
                        cases hF : F p
                        · have Hp2 : Hid ((pickTo F (p + 1)).length = l) := hide (by rw [Hps.out, hF]; exact HL.out)
                          have hv : inV F p = .int .i64 0 := by unfold inV; rw [hF]; rfl
                          rw [hv] at hix
                          go_wp2_with fail
                          go_roundw
                          case rel => exact ⟨p + 1, l, by omega, by go_num, by omega, Hp2, by go_num, by first | rfl | trivial⟩
                          case measure => simp [intOf]; omega
                        · have Hp2 : Hid ((pickTo F (p + 1)).length = l + 1) := hide (by rw [Hps.out, hF]; simp [HL.out])
                          have hv : inV F p = .int .i64 1 := by unfold inV; rw [hF]; rfl
                          rw [hv] at hix
                          go_wp2_with fail
                          go_roundw
                          case rel => exact ⟨p + 1, l + 1, by omega, by go_num, by omega, Hp2, by go_num, by first | rfl | trivial⟩
                          case measure => simp [intOf]; omega
                      · have hpl' : ¬ ((p : Int) < 6) := by omega
                        obtain rfl : p = 6 := by omega
                        have hlj : l = j := by rw [← HL.out, Hpm.out]
                        subst hlj
                        have hz0' : ((l : Int) - (l : Int) != 0) = false := by simp
                        go_wp2_with fail
                        go_roundw
                        case rel => exact ⟨1, by omega, rfl, Hb7.out⟩
                        case measure => simp [intOf]
              · have p1 : (op == 3) = false := by rw [beq_eq_false_iff_ne]; exact hop
                cases p2 : (op == 4)
                · have Hrd : Hid (∀ i : Nat, rdK t.kids 3 i = rdT t 3 i) := hide (fun i => by
                    have e := Htm.out
                    rw [rdT_eq, show t.op = op by rw [e]; rfl]
                    have : (op == 3) = false := by rw [beq_eq_false_iff_ne]; exact hop
                    rw [this]; simp)
                  have Hset := hide (Hrow2.out.congr (g := inV fun i => rdT t 3 i) (fun i _ => inV_eq (by rw [Hrd.out i])))
                  have Hon2 := Hbw
                  have hzS : wr.heap.size = wr.heap.size := rfl
                  clear hop
                  go_wp2_with fail
                  clear f0 f1 f2
                  obtain ⟨w6, rfl⟩ : ∃ w6, w6 = wr := ⟨_, rfl⟩
                  refine (reads_row xs m Hxs Hmm (by have := Hon2.out.size; omega) (Hre2.out.below (Hon2.out.mono (by omega)))).mono ?_
                  rintro e w7 ⟨O, c, rfl, hrj, hb7⟩
                  have hz7 := hb7.size
                  have hzN := Hon2.out.size
                  have Hrow7 := hide (Hset.out.of_block (hb7.block _ (by have := Hset.out.lt; omega)))
                  have Hb7 := hide (Hon2.out.trans (hb7.mono (by omega)))
                  have Hrj := hide hrj
                  clear hb7 hrj Hset Hxs
                  generalize hFF : (fun i => rdT t 3 i) = F at *
                  go_wp2_with fail
                  go_loopw [11, 95] (fun a i wr => ∃ j : Nat, j ≤ m ∧ i = .int .i64 j ∧ a = .int .i64 j ∧ wr = w7) (fun _ i _ => m - (intOf i).toNat)
                  case atStart => exact ⟨0, by omega, rfl, rfl, rfl⟩
                  case round =>
                    obtain ⟨j, hj, rfl, rfl, rfl⟩ := hrel
                    by_cases hjl : j < m
                    · have hjl' : ((j : Int) < (m : Int)) := by omega
                      obtain ⟨bb, bo, x, rfl, hlo, hbb, hx, cx⟩ := Hrj.out.at_ hjl
                      have hxm : x ∈ pickTo F 6 := by rw [← Hxp.out]; exact List.mem_of_getElem? hx
                      obtain ⟨q, hq6, hFq, rfl⟩ := (pickTo_mem _ _ _).1 hxm
                      clear hxm hx
                      have hq6' : (q : Int) < 6 := by omega
                      have q1 : decide ((q : Int) < 0) = false := by rw [decide_eq_false_iff_not]; omega
                      have q2 : decide ((6 : Int) ≤ (q : Int)) = false := by rw [decide_eq_false_iff_not]; omega
                      have hcq : wr.cell? ⟨wA.heap.size, q, none⟩ = some (.int .i64 1) := by
                        have := Hrow7.out.cell hq6
                        rw [inV, if_pos hFq] at this; exact this
                      go_wp2_with fail
                      go_roundw
                      case rel => exact ⟨j + 1, by omega, by go_num, by go_num, by first | rfl | trivial⟩
                      case measure => simp [intOf]; omega
                    · have hjl' : ¬ ((j : Int) < (m : Int)) := by omega
                      obtain rfl : j = m := by omega
                      have a0 := Hrow7.out.cell (i := 0) (by omega)
                      have a1 := Hrow7.out.cell (i := 1) (by omega)
                      have a2 := Hrow7.out.cell (i := 2) (by omega)
                      have a3 := Hrow7.out.cell (i := 3) (by omega)
                      have a4 := Hrow7.out.cell (i := 4) (by omega)
                      have a5 := Hrow7.out.cell (i := 5) (by omega)
                      have hpm : (pickTo F 6).length = j := by rw [← Hxp.out]; exact Hmm.out
                      have Hpm := hide hpm
                      clear hpm
                      go_wp2_with fail
                      clear a0 a1 a2 a3 a4 a5
                      obtain ⟨wE, rfl⟩ : ∃ wE, wE = wr := ⟨_, rfl⟩
                      go_loopw [11, 115] (fun a i wr => ∃ (p l : Nat), p ≤ 6 ∧ i = .int .i64 p ∧ l ≤ p ∧ Hid ((pickTo F p).length = l) ∧ a = .int .i64 ((j : Int) - (l : Int)) ∧ wr = wE) (fun _ i _ => 6 - (intOf i).toNat)
                      case atStart => exact ⟨0, 0, by omega, rfl, by omega, hide rfl, by simp, rfl⟩
                      case round =>
                        obtain ⟨p, l, hp, rfl, hlp, HL, rfl, rfl⟩ := hrel
                        by_cases hpl : p < 6
                        · have hpl' : ((p : Int) < 6) := by omega
                          have hix := in_idx F p hpl
                          have Hps := hide (pickTo_succ F p)
                          cases hF : F p
                          · have Hp2 : Hid ((pickTo F (p + 1)).length = l) := hide (by rw [Hps.out, hF]; exact HL.out)
                            have hv : inV F p = .int .i64 0 := by unfold inV; rw [hF]; rfl
                            rw [hv] at hix
                            go_wp2_with fail
                            go_roundw
                            case rel => exact ⟨p + 1, l, by omega, by go_num, by omega, Hp2, by go_num, by first | rfl | trivial⟩
                            case measure => simp [intOf]; omega
                          · have Hp2 : Hid ((pickTo F (p + 1)).length = l + 1) := hide (by rw [Hps.out, hF]; simp [HL.out])
                            have hv : inV F p = .int .i64 1 := by unfold inV; rw [hF]; rfl
                            rw [hv] at hix
                            go_wp2_with fail
                            go_roundw
                            case rel => exact ⟨p + 1, l + 1, by omega, by go_num, by omega, Hp2, by go_num, by first | rfl | trivial⟩
                            case measure => simp [intOf]; omega
                        · have hpl' : ¬ ((p : Int) < 6) := by omega
                          obtain rfl : p = 6 := by omega
                          have hlj : l = j := by rw [← HL.out, Hpm.out]
                          subst hlj
                          have hz0' : ((l : Int) - (l : Int) != 0) = false := by simp
                          go_wp2_with fail
                          go_roundw
                          case rel => exact ⟨1, by omega, rfl, Hb7.out⟩
                          case measure => simp [intOf]
                · have Hrd : Hid (∀ i : Nat, rdK t.kids 3 i = rdT t 3 i) := hide (fun i => by
                    have e := Htm.out
                    rw [rdT_eq, show t.op = op by rw [e]; rfl]
                    have : (op == 3) = false := by rw [beq_eq_false_iff_ne]; exact hop
                    rw [this]; simp)
                  have Hset := hide (Hrow2.out.congr (g := inV fun i => rdT t 3 i) (fun i _ => inV_eq (by rw [Hrd.out i])))
                  have Hon2 := Hbw
                  have hzS : wr.heap.size = wr.heap.size := rfl
                  clear hop
                  go_wp2_with fail
                  clear f0 f1 f2
                  obtain ⟨w6, rfl⟩ : ∃ w6, w6 = wr := ⟨_, rfl⟩
                  refine (reads_row xs m Hxs Hmm (by have := Hon2.out.size; omega) (Hre2.out.below (Hon2.out.mono (by omega)))).mono ?_
                  rintro e w7 ⟨O, c, rfl, hrj, hb7⟩
                  have hz7 := hb7.size
                  have hzN := Hon2.out.size
                  have Hrow7 := hide (Hset.out.of_block (hb7.block _ (by have := Hset.out.lt; omega)))
                  have Hb7 := hide (Hon2.out.trans (hb7.mono (by omega)))
                  have Hrj := hide hrj
                  clear hb7 hrj Hset Hxs
                  generalize hFF : (fun i => rdT t 3 i) = F at *
                  go_wp2_with fail
                  go_loopw [11, 95] (fun a i wr => ∃ j : Nat, j ≤ m ∧ i = .int .i64 j ∧ a = .int .i64 j ∧ wr = w7) (fun _ i _ => m - (intOf i).toNat)
                  case atStart => exact ⟨0, by omega, rfl, rfl, rfl⟩
                  case round =>
                    obtain ⟨j, hj, rfl, rfl, rfl⟩ := hrel
                    by_cases hjl : j < m
                    · have hjl' : ((j : Int) < (m : Int)) := by omega
                      obtain ⟨bb, bo, x, rfl, hlo, hbb, hx, cx⟩ := Hrj.out.at_ hjl
                      have hxm : x ∈ pickTo F 6 := by rw [← Hxp.out]; exact List.mem_of_getElem? hx
                      obtain ⟨q, hq6, hFq, rfl⟩ := (pickTo_mem _ _ _).1 hxm
                      clear hxm hx
                      have hq6' : (q : Int) < 6 := by omega
                      have q1 : decide ((q : Int) < 0) = false := by rw [decide_eq_false_iff_not]; omega
                      have q2 : decide ((6 : Int) ≤ (q : Int)) = false := by rw [decide_eq_false_iff_not]; omega
                      have hcq : wr.cell? ⟨wA.heap.size, q, none⟩ = some (.int .i64 1) := by
                        have := Hrow7.out.cell hq6
                        rw [inV, if_pos hFq] at this; exact this
                      go_wp2_with fail
                      go_roundw
                      case rel => exact ⟨j + 1, by omega, by go_num, by go_num, by first | rfl | trivial⟩
                      case measure => simp [intOf]; omega
                    · have hjl' : ¬ ((j : Int) < (m : Int)) := by omega
                      obtain rfl : j = m := by omega
                      have a0 := Hrow7.out.cell (i := 0) (by omega)
                      have a1 := Hrow7.out.cell (i := 1) (by omega)
                      have a2 := Hrow7.out.cell (i := 2) (by omega)
                      have a3 := Hrow7.out.cell (i := 3) (by omega)
                      have a4 := Hrow7.out.cell (i := 4) (by omega)
                      have a5 := Hrow7.out.cell (i := 5) (by omega)
                      have hpm : (pickTo F 6).length = j := by rw [← Hxp.out]; exact Hmm.out
                      have Hpm := hide hpm
                      clear hpm
                      go_wp2_with fail
                      clear a0 a1 a2 a3 a4 a5
                      obtain ⟨wE, rfl⟩ : ∃ wE, wE = wr := ⟨_, rfl⟩
                      go_loopw [11, 115] (fun a i wr => ∃ (p l : Nat), p ≤ 6 ∧ i = .int .i64 p ∧ l ≤ p ∧ Hid ((pickTo F p).length = l) ∧ a = .int .i64 ((j : Int) - (l : Int)) ∧ wr = wE) (fun _ i _ => 6 - (intOf i).toNat)
                      case atStart => exact ⟨0, 0, by omega, rfl, by omega, hide rfl, by simp, rfl⟩
                      case round =>
                        obtain ⟨p, l, hp, rfl, hlp, HL, rfl, rfl⟩ := hrel
                        by_cases hpl : p < 6
                        · have hpl' : ((p : Int) < 6) := by omega
                          have hix := in_idx F p hpl
                          have Hps := hide (pickTo_succ F p)
                          cases hF : F p
                          · have Hp2 : Hid ((pickTo F (p + 1)).length = l) := hide (by rw [Hps.out, hF]; exact HL.out)
                            have hv : inV F p = .int .i64 0 := by unfold inV; rw [hF]; rfl
                            rw [hv] at hix
                            go_wp2_with fail
                            go_roundw
                            case rel => exact ⟨p + 1, l, by omega, by go_num, by omega, Hp2, by go_num, by first | rfl | trivial⟩
                            case measure => simp [intOf]; omega
                          · have Hp2 : Hid ((pickTo F (p + 1)).length = l + 1) := hide (by rw [Hps.out, hF]; simp [HL.out])
                            have hv : inV F p = .int .i64 1 := by unfold inV; rw [hF]; rfl
                            rw [hv] at hix
                            go_wp2_with fail
                            go_roundw
                            case rel => exact ⟨p + 1, l + 1, by omega, by go_num, by omega, Hp2, by go_num, by first | rfl | trivial⟩
                            case measure => simp [intOf]; omega
                        · have hpl' : ¬ ((p : Int) < 6) := by omega
                          obtain rfl : p = 6 := by omega
                          have hlj : l = j := by rw [← HL.out, Hpm.out]
                          subst hlj
                          have hz0' : ((l : Int) - (l : Int) != 0) = false := by simp
                          go_wp2_with fail
                          go_roundw
                          case rel => exact ⟨1, by omega, rfl, Hb7.out⟩
                          case measure => simp [intOf]
        · have hzr := HbR.out.size
          have Hox : Hid (opOf true = 4) := hide rfl
          have hix0 := nx_idx1 wr
          have hinb : Below wr.heap.size wr (wr.alloc (.cells #[.int .i64 0, .int .i64 0, .int .i64 0, .int .i64 0, .int .i64 0, .int .i64 0] 36)) := (Below.refl _ _).alloc (Nat.le_refl _) _
          have Hrow0 := hide (in_new wr)
          have hzi : (wr.alloc (.cells #[.int .i64 0, .int .i64 0, .int .i64 0, .int .i64 0, .int .i64 0, .int .i64 0] 36)).heap.size = wr.heap.size + 1 := by simp
          have HinB := hide hinb
          clear hinb
          obtain ⟨f0, f1, f2⟩ := Hbox2.out.below (HbR.out.trans (HinB.out.mono hzr)) (by omega)
          obtain ⟨wA, rfl⟩ : ∃ wA, wA = wr := ⟨_, rfl⟩
          go_wp2_with fail
          clear f0 f1 f2 hix0
          generalize wA.alloc (.cells #[.int .i64 0, .int .i64 0, .int .i64 0, .int .i64 0, .int .i64 0, .int .i64 0] 36) = w3 at *
          go_loopw [43] (fun i wr => ∃ k : Nat, k ≤ len ∧ i = .int .i64 k ∧ wr.rowIs wA.heap.size 36 6 (inV fun i => rdK (t.kids.take k) 4 i) ∧ Below wA.heap.size wA wr ∧ wA.heap.size + 1 ≤ wr.heap.size) (fun i _ => len - (intOf i).toNat)
          case atStart => exact ⟨0, by omega, rfl, Hrow0.out.congr (fun i _ => by simp [inV, rdK]), HinB.out, by omega⟩
          case round =>
            obtain ⟨k, hk, rfl, hrow, hb, hz⟩ := hrel
            have Hrow := hide hrow
            have Hb := hide hb
            clear hrow hb
            by_cases hlt : k < len
            · have hlt' : ((k : Int) < (len : Int)) := by omega
              obtain ⟨b, off, u, op2, n2, A2, l2, c2, rfl, hbB, hku, ⟨c0, c1, cs⟩, hre2⟩ := (Hre2.out.below ((HbR.out.trans (Hb.out.mono hzr)).mono (by omega))).at_ hlt
              have Hmu := hide (may_kid Hm.out hku)
              have Htk : Hid (∀ i, rdK (t.kids.take (k + 1)) 4 i = (rdK (t.kids.take k) 4 i || rdT u 4 i)) := hide (fun i => by
                obtain ⟨hkl, e⟩ := List.getElem?_eq_some_iff.1 hku
                rw [List.take_succ_eq_append_getElem hkl, rdK_snoc, e])
              clear hku
              have Hre3 := hide (hre2.below ((Below.refl B wr).alloc (by omega) (.cells #[.int .i64 op2, .int .i64 n2, .slice A2 l2 c2] 24)))
              clear hre2
              obtain ⟨xs, hxs⟩ : ∃ xs, readsE u true = xs := ⟨_, rfl⟩
              obtain ⟨m, hm⟩ : ∃ m, xs.length = m := ⟨_, rfl⟩
              have hm6 : m ≤ 6 := by
                rw [← hm, ← hxs, reads_good Hmu.out]
                exact pickTo_len _ _
              have Hxp : Hid (xs = pickTo (fun i => rdT u 4 i) 6) := hide (by rw [← hxs, reads_good Hmu.out, Hox.out])
              have Hxs := hide hxs
              have Hmm := hide hm
              clear hxs hm
              have hz5 : (wr.alloc (.cells #[.int .i64 op2, .int .i64 n2, .slice A2 l2 c2] 24)).heap.size = wr.heap.size + 1 := by simp
              have Hrow4 := hide (Hrow.out.alloc (.cells #[.int .i64 op2, .int .i64 n2, .slice A2 l2 c2] 24))
              have Hb4 := hide (Hb.out.alloc (by omega) (.cells #[.int .i64 op2, .int .i64 n2, .slice A2 l2 c2] 24))
              go_wp2_with fail
              refine (reads_row xs m Hxs Hmm (by omega) Hre3.out).mono ?_
              rintro e w5 ⟨O, c, rfl, hrj, hb5⟩
              have hzw := hb5.size
              have Hrow5 := hide (Hrow4.out.of_block (hb5.block _ (by omega)))
              have Hb5 := hide (Hb4.out.trans (hb5.mono (by omega)))
              have Hrj := hide hrj
              clear hb5 hrj c0 c1 cs Hre3 Hrow4 Hb4 Hrow Hb Hxs
              rw [hz5] at Hrj
              obtain ⟨wB, rfl⟩ : ∃ wB, wB = wr := ⟨_, rfl⟩
              generalize wB.alloc (.cells #[.int .i64 op2, .int .i64 n2, .slice A2 l2 c2] 24) = wK at *
              go_wp2_with fail
              go_loopw [51] (fun i wr => ∃ j : Nat, j ≤ m ∧ i = .int .i64 j ∧ wr.rowIs wA.heap.size 36 6 (inV fun i => rdK (t.kids.take k) 4 i || decide ((i : Int) ∈ xs.take j)) ∧ Onl wA.heap.size w5 wr ∧ Below wA.heap.size wA wr) (fun i _ => m - (intOf i).toNat)
              case atStart => exact ⟨0, by omega, rfl, Hrow5.out.congr (fun i _ => by simp [inV]), Onl.refl _ _, Hb5.out⟩
              case round =>
                obtain ⟨j, hj, rfl, hrw, hon, hbj⟩ := hrel
                have Hrw := hide hrw
                have Hon := hide hon
                have Hbj := hide hbj
                clear hrw hon hbj
                have hzj := Hbj.out.size
                have hzo := Hon.out.size
                by_cases hjl : j < m
                · have hjl' : ((j : Int) < (m : Int)) := by omega
                  obtain ⟨bb, bo, x, rfl, hlo, hbb, hx, cx⟩ := (Hrj.out.keep (fun p h1 h2 => Hon.out.cell (by omega) (by omega))).at_ hjl
                  have Htm2 := hide (take_mem hx)
                  have hxm : x ∈ pickTo (fun i => rdT u 4 i) 6 := by rw [← Hxp.out]; exact List.mem_of_getElem? hx
                  obtain ⟨q, hq6, _, rfl⟩ := (pickTo_mem _ _ _).1 hxm
                  clear hxm hx
                  have hq6' : (q : Int) < 6 := by omega
                  have q1 : decide ((q : Int) < 0) = false := by rw [decide_eq_false_iff_not]; omega
                  have q2 : decide ((6 : Int) ≤ (q : Int)) = false := by rw [decide_eq_false_iff_not]; omega
                  obtain ⟨v0, hv0⟩ : ∃ v, wr.cell? ⟨wA.heap.size, q, none⟩ = some v := ⟨_, Hrw.out.cell hq6⟩
                  have hfz := Hrw.out.frozen q
                  have Hset := hide ((in_set Hrw.out q).congr (g := inV fun i => rdK (t.kids.take k) 4 i || decide ((i : Int) ∈ xs.take (j + 1))) (fun i _ => inV_eq (by rw [Htm2.out i, Bool.or_assoc])))
                  have Hon2 := hide (Hon.out.set q (.int .i64 1))
                  have Hbj2 : Hid (Below wA.heap.size wA (wr.setCell ⟨wA.heap.size, q, none⟩ (.int .i64 1))) := hide (Hbj.out.setCell (by exact Nat.le_refl _) _)
                  go_wp2_with fail
                  go_roundw
                  case rel => exact ⟨j + 1, by omega, by go_num, Hset.out, Hon2.out, Hbj2.out⟩
                  case measure => simp [intOf]; omega
                · have hjl' : ¬ ((j : Int) < (m : Int)) := by omega
                  have hjm : j = m := by omega
                  have Hfin := hide (Hrw.out.congr (g := inV fun i => rdK (t.kids.take (k + 1)) 4 i) (fun i hi => by
                    refine inV_eq ?_
                    rw [Htk.out i, List.take_of_length_le (show xs.length ≤ j by rw [Hmm.out]; omega), Hxp.out, pick_marks _ i hi]))
                  go_wp2_with fail
                  go_roundw
                  case rel => exact ⟨_, _, _, _, ⟨k + 1, by omega, by go_num, Hfin.out, Hbj.out, by omega⟩, rfl, rfl, rfl, rfl⟩
                  case measure => simp [intOf]; omega
            · have hlt' : ¬ ((k : Int) < (len : Int)) := by omega
              have Hrow2 := hide (Hrow.out.congr (g := inV fun i => rdK t.kids 4 i) (fun i _ => by
                refine inV_eq ?_; rw [List.take_of_length_le (by rw [Hlen.out]; omega)]))
              clear Hrow
              have hzb := Hb.out.size
              have Hbw := hide (HbR.out.trans (Hb.out.mono hzr))
              obtain ⟨f0, f1, f2⟩ := Hbox2.out.below Hbw.out (by omega)
              obtain ⟨xs, hxs⟩ : ∃ xs, readsE t true = xs := ⟨_, rfl⟩
              obtain ⟨m, hm⟩ : ∃ m, xs.length = m := ⟨_, rfl⟩
              have hm6 : m ≤ 6 := by
                rw [← hm, ← hxs, reads_good Hm.out]
                exact pickTo_len _ _
              have Hxp : Hid (xs = pickTo (fun i => rdT t 4 i) 6) := hide (by rw [← hxs, reads_good Hm.out, Hox.out])
              have Hxs := hide hxs
              have Hmm := hide hm
              clear hxs hm
              by_cases hop : op = 4
              · have p1 : (op == 3) = false := by rw [beq_eq_false_iff_ne]; omega
                have p2 : (op == 4) = true := by simp [hop]
                obtain ⟨n0, n6⟩ := Hnn.out (by omega)
                obtain ⟨q, rfl⟩ := Int.eq_ofNat_of_zero_le n0
                have hq6 : q < 6 := by omega
                have hq6' : (q : Int) < 6 := by omega
                have q1 : decide ((q : Int) < 0) = false := by rw [decide_eq_false_iff_not]; omega
                have q2 : decide ((6 : Int) ≤ (q : Int)) = false := by rw [decide_eq_false_iff_not]; omega
                have Hrd : Hid (∀ i : Nat, (rdK t.kids 4 i || ((i : Int) == (q : Int))) = rdT t 4 i) := hide (fun i => by
                  have e := Htm.out
                  rw [rdT_eq, show t.op = op by rw [e]; rfl, show t.n = (q : Int) by rw [e]; rfl, hop]
                  rw [Bool.or_comm]
                  congr 1
                  by_cases h : i = q
                  · subst h; simp
                  · have h1 : ((i : Int) == (q : Int)) = false := by rw [beq_eq_false_iff_ne]; omega
                    have h2 : ((q : Int) == (i : Int)) = false := by rw [beq_eq_false_iff_ne]; omega
                    rw [h1, h2]; simp)
                obtain ⟨v0, hv0⟩ : ∃ v, wr.cell? ⟨wA.heap.size, q, none⟩ = some v := ⟨_, Hrow2.out.cell hq6⟩
                have hfz := Hrow2.out.frozen q
                have Hset := hide ((in_set Hrow2.out q).congr (g := inV fun i => rdT t 4 i) (fun i _ => inV_eq (by rw [Hrd.out i])))
                have Hon2 : Hid (Below w2.heap.size w2 (wr.setCell ⟨wA.heap.size, q, none⟩ (.int .i64 1))) := hide (Hbw.out.setCell (by exact hzr) _)
                clear hop n0 n6
                obtain ⟨g0, g1, g2⟩ := Hbox2.out.below Hon2.out (by omega)
                go_wp2_with fail
                clear f0 f1 f2 g0 g1 g2 hv0 hfz
                have hzS : (wr.setCell ⟨wA.heap.size, q, none⟩ (.int .i64 1)).heap.size = wr.heap.size := by simp [World.setCell]
                generalize wr.setCell ⟨wA.heap.size, q, none⟩ (.int .i64 1) = w6 at *
                refine (reads_row xs m Hxs Hmm (by have := Hon2.out.size; omega) (Hre2.out.below (Hon2.out.mono (by omega)))).mono ?_
                rintro e w7 ⟨O, c, rfl, hrj, hb7⟩
                have hz7 := hb7.size
                have hzN := Hon2.out.size
                have Hrow7 := hide (Hset.out.of_block (hb7.block _ (by have := Hset.out.lt; omega)))
                have Hb7 := hide (Hon2.out.trans (hb7.mono (by omega)))
                have Hrj := hide hrj
                clear hb7 hrj Hset Hxs
                generalize hFF : (fun i => rdT t 4 i) = F at *
                go_wp2_with fail
                go_loopw [11, 95] (fun a i wr => ∃ j : Nat, j ≤ m ∧ i = .int .i64 j ∧ a = .int .i64 j ∧ wr = w7) (fun _ i _ => m - (intOf i).toNat)
                case atStart => exact ⟨0, by omega, rfl, rfl, rfl⟩
                case round =>
                  obtain ⟨j, hj, rfl, rfl, rfl⟩ := hrel
                  by_cases hjl : j < m
                  · have hjl' : ((j : Int) < (m : Int)) := by omega
                    obtain ⟨bb, bo, x, rfl, hlo, hbb, hx, cx⟩ := Hrj.out.at_ hjl
                    have hxm : x ∈ pickTo F 6 := by rw [← Hxp.out]; exact List.mem_of_getElem? hx
                    obtain ⟨q, hq6, hFq, rfl⟩ := (pickTo_mem _ _ _).1 hxm
                    clear hxm hx
                    have hq6' : (q : Int) < 6 := by omega
                    have q1 : decide ((q : Int) < 0) = false := by rw [decide_eq_false_iff_not]; omega
                    have q2 : decide ((6 : Int) ≤ (q : Int)) = false := by rw [decide_eq_false_iff_not]; omega
                    have hcq : wr.cell? ⟨wA.heap.size, q, none⟩ = some (.int .i64 1) := by
                      have := Hrow7.out.cell hq6
                      rw [inV, if_pos hFq] at this; exact this
                    go_wp2_with fail
                    go_roundw
                    case rel => exact ⟨j + 1, by omega, by go_num, by go_num, by first | rfl | trivial⟩
                    case measure => simp [intOf]; omega
                  · have hjl' : ¬ ((j : Int) < (m : Int)) := by omega
                    obtain rfl : j = m := by omega
                    have a0 := Hrow7.out.cell (i := 0) (by omega)
                    have a1 := Hrow7.out.cell (i := 1) (by omega)
                    have a2 := Hrow7.out.cell (i := 2) (by omega)
                    have a3 := Hrow7.out.cell (i := 3) (by omega)
                    have a4 := Hrow7.out.cell (i := 4) (by omega)
                    have a5 := Hrow7.out.cell (i := 5) (by omega)
                    have hpm : (pickTo F 6).length = j := by rw [← Hxp.out]; exact Hmm.out
                    have Hpm := hide hpm
                    clear hpm
                    go_wp2_with fail
                    clear a0 a1 a2 a3 a4 a5
                    obtain ⟨wE, rfl⟩ : ∃ wE, wE = wr := ⟨_, rfl⟩
                    go_loopw [11, 115] (fun a i wr => ∃ (p l : Nat), p ≤ 6 ∧ i = .int .i64 p ∧ l ≤ p ∧ Hid ((pickTo F p).length = l) ∧ a = .int .i64 ((j : Int) - (l : Int)) ∧ wr = wE) (fun _ i _ => 6 - (intOf i).toNat)
                    case atStart => exact ⟨0, 0, by omega, rfl, by omega, hide rfl, by simp, rfl⟩
                    case round =>
                      obtain ⟨p, l, hp, rfl, hlp, HL, rfl, rfl⟩ := hrel
                      by_cases hpl : p < 6
                      · have hpl' : ((p : Int) < 6) := by omega
                        have hix := in_idx F p hpl
                        have Hps := hide (pickTo_succ F p)
                        cases hF : F p
                        · have Hp2 : Hid ((pickTo F (p + 1)).length = l) := hide (by rw [Hps.out, hF]; exact HL.out)
                          have hv : inV F p = .int .i64 0 := by unfold inV; rw [hF]; rfl
                          rw [hv] at hix
                          go_wp2_with fail
                          go_roundw
                          case rel => exact ⟨p + 1, l, by omega, by go_num, by omega, Hp2, by go_num, by first | rfl | trivial⟩
                          case measure => simp [intOf]; omega
                        · have Hp2 : Hid ((pickTo F (p + 1)).length = l + 1) := hide (by rw [Hps.out, hF]; simp [HL.out])
                          have hv : inV F p = .int .i64 1 := by unfold inV; rw [hF]; rfl
                          rw [hv] at hix
                          go_wp2_with fail
                          go_roundw
                          case rel => exact ⟨p + 1, l + 1, by omega, by go_num, by omega, Hp2, by go_num, by first | rfl | trivial⟩
                          case measure => simp [intOf]; omega
                      · have hpl' : ¬ ((p : Int) < 6) := by omega
                        obtain rfl : p = 6 := by omega
                        have hlj : l = j := by rw [← HL.out, Hpm.out]
                        subst hlj
                        have hz0' : ((l : Int) - (l : Int) != 0) = false := by simp
                        go_wp2_with fail
                        go_roundw
                        case rel => exact ⟨2, by omega, rfl, Hb7.out⟩
                        case measure => simp [intOf]
              · have p2 : (op == 4) = false := by rw [beq_eq_false_iff_ne]; exact hop
                cases p1 : (op == 3)
                · have Hrd : Hid (∀ i : Nat, rdK t.kids 4 i = rdT t 4 i) := hide (fun i => by
                    have e := Htm.out
                    rw [rdT_eq, show t.op = op by rw [e]; rfl]
                    have : (op == 4) = false := by rw [beq_eq_false_iff_ne]; exact hop
                    rw [this]; simp)
                  have Hset := hide (Hrow2.out.congr (g := inV fun i => rdT t 4 i) (fun i _ => inV_eq (by rw [Hrd.out i])))
                  have Hon2 := Hbw
                  have hzS : wr.heap.size = wr.heap.size := rfl
                  clear hop
                  go_wp2_with fail
                  clear f0 f1 f2
                  obtain ⟨w6, rfl⟩ : ∃ w6, w6 = wr := ⟨_, rfl⟩
                  refine (reads_row xs m Hxs Hmm (by have := Hon2.out.size; omega) (Hre2.out.below (Hon2.out.mono (by omega)))).mono ?_
                  rintro e w7 ⟨O, c, rfl, hrj, hb7⟩
                  have hz7 := hb7.size
                  have hzN := Hon2.out.size
                  have Hrow7 := hide (Hset.out.of_block (hb7.block _ (by have := Hset.out.lt; omega)))
                  have Hb7 := hide (Hon2.out.trans (hb7.mono (by omega)))
                  have Hrj := hide hrj
                  clear hb7 hrj Hset Hxs
                  generalize hFF : (fun i => rdT t 4 i) = F at *
                  go_wp2_with fail
                  go_loopw [11, 95] (fun a i wr => ∃ j : Nat, j ≤ m ∧ i = .int .i64 j ∧ a = .int .i64 j ∧ wr = w7) (fun _ i _ => m - (intOf i).toNat)
                  case atStart => exact ⟨0, by omega, rfl, rfl, rfl⟩
                  case round =>
                    obtain ⟨j, hj, rfl, rfl, rfl⟩ := hrel
                    by_cases hjl : j < m
                    · have hjl' : ((j : Int) < (m : Int)) := by omega
                      obtain ⟨bb, bo, x, rfl, hlo, hbb, hx, cx⟩ := Hrj.out.at_ hjl
                      have hxm : x ∈ pickTo F 6 := by rw [← Hxp.out]; exact List.mem_of_getElem? hx
                      obtain ⟨q, hq6, hFq, rfl⟩ := (pickTo_mem _ _ _).1 hxm
                      clear hxm hx
                      have hq6' : (q : Int) < 6 := by omega
                      have q1 : decide ((q : Int) < 0) = false := by rw [decide_eq_false_iff_not]; omega
                      have q2 : decide ((6 : Int) ≤ (q : Int)) = false := by rw [decide_eq_false_iff_not]; omega
                      have hcq : wr.cell? ⟨wA.heap.size, q, none⟩ = some (.int .i64 1) := by
                        have := Hrow7.out.cell hq6
                        rw [inV, if_pos hFq] at this; exact this
                      go_wp2_with fail
                      go_roundw
                      case rel => exact ⟨j + 1, by omega, by go_num, by go_num, by first | rfl | trivial⟩
                      case measure => simp [intOf]; omega
                    · have hjl' : ¬ ((j : Int) < (m : Int)) := by omega
                      obtain rfl : j = m := by omega
                      have a0 := Hrow7.out.cell (i := 0) (by omega)
                      have a1 := Hrow7.out.cell (i := 1) (by omega)
                      have a2 := Hrow7.out.cell (i := 2) (by omega)
                      have a3 := Hrow7.out.cell (i := 3) (by omega)
                      have a4 := Hrow7.out.cell (i := 4) (by omega)
                      have a5 := Hrow7.out.cell (i := 5) (by omega)
                      have hpm : (pickTo F 6).length = j := by rw [← Hxp.out]; exact Hmm.out
                      have Hpm := hide hpm
                      clear hpm
                      go_wp2_with fail
                      clear a0 a1 a2 a3 a4 a5
                      obtain ⟨wE, rfl⟩ : ∃ wE, wE = wr := ⟨_, rfl⟩
                      go_loopw [11, 115] (fun a i wr => ∃ (p l : Nat), p ≤ 6 ∧ i = .int .i64 p ∧ l ≤ p ∧ Hid ((pickTo F p).length = l) ∧ a = .int .i64 ((j : Int) - (l : Int)) ∧ wr = wE) (fun _ i _ => 6 - (intOf i).toNat)
                      case atStart => exact ⟨0, 0, by omega, rfl, by omega, hide rfl, by simp, rfl⟩
                      case round =>
                        obtain ⟨p, l, hp, rfl, hlp, HL, rfl, rfl⟩ := hrel
                        by_cases hpl : p < 6
                        · have hpl' : ((p : Int) < 6) := by omega
                          have hix := in_idx F p hpl
                          have Hps := hide (pickTo_succ F p)
                          cases hF : F p
                          · have Hp2 : Hid ((pickTo F (p + 1)).length = l) := hide (by rw [Hps.out, hF]; exact HL.out)
                            have hv : inV F p = .int .i64 0 := by unfold inV; rw [hF]; rfl
                            rw [hv] at hix
                            go_wp2_with fail
                            go_roundw
                            case rel => exact ⟨p + 1, l, by omega, by go_num, by omega, Hp2, by go_num, by first | rfl | trivial⟩
                            case measure => simp [intOf]; omega
                          · have Hp2 : Hid ((pickTo F (p + 1)).length = l + 1) := hide (by rw [Hps.out, hF]; simp [HL.out])
                            have hv : inV F p = .int .i64 1 := by unfold inV; rw [hF]; rfl
                            rw [hv] at hix
                            go_wp2_with fail
                            go_roundw
                            case rel => exact ⟨p + 1, l + 1, by omega, by go_num, by omega, Hp2, by go_num, by first | rfl | trivial⟩
                            case measure => simp [intOf]; omega
                        · have hpl' : ¬ ((p : Int) < 6) := by omega
                          obtain rfl : p = 6 := by omega
                          have hlj : l = j := by rw [← HL.out, Hpm.out]
                          subst hlj
                          have hz0' : ((l : Int) - (l : Int) != 0) = false := by simp
                          go_wp2_with fail
                          go_roundw
                          case rel => exact ⟨2, by omega, rfl, Hb7.out⟩
                          case measure => simp [intOf]
                · have Hrd : Hid (∀ i : Nat, rdK t.kids 4 i = rdT t 4 i) := hide (fun i => by
                    have e := Htm.out
                    rw [rdT_eq, show t.op = op by rw [e]; rfl]
                    have : (op == 4) = false := by rw [beq_eq_false_iff_ne]; exact hop
                    rw [this]; simp)
                  have Hset := hide (Hrow2.out.congr (g := inV fun i => rdT t 4 i) (fun i _ => inV_eq (by rw [Hrd.out i])))
                  have Hon2 := Hbw
                  have hzS : wr.heap.size = wr.heap.size := rfl
                  clear hop
                  go_wp2_with fail
                  clear f0 f1 f2
                  obtain ⟨w6, rfl⟩ : ∃ w6, w6 = wr := ⟨_, rfl⟩
                  refine (reads_row xs m Hxs Hmm (by have := Hon2.out.size; omega) (Hre2.out.below (Hon2.out.mono (by omega)))).mono ?_
                  rintro e w7 ⟨O, c, rfl, hrj, hb7⟩
                  have hz7 := hb7.size
                  have hzN := Hon2.out.size
                  have Hrow7 := hide (Hset.out.of_block (hb7.block _ (by have := Hset.out.lt; omega)))
                  have Hb7 := hide (Hon2.out.trans (hb7.mono (by omega)))
                  have Hrj := hide hrj
                  clear hb7 hrj Hset Hxs
                  generalize hFF : (fun i => rdT t 4 i) = F at *
                  go_wp2_with fail
                  go_loopw [11, 95] (fun a i wr => ∃ j : Nat, j ≤ m ∧ i = .int .i64 j ∧ a = .int .i64 j ∧ wr = w7) (fun _ i _ => m - (intOf i).toNat)
                  case atStart => exact ⟨0, by omega, rfl, rfl, rfl⟩
                  case round =>
                    obtain ⟨j, hj, rfl, rfl, rfl⟩ := hrel
                    by_cases hjl : j < m
                    · have hjl' : ((j : Int) < (m : Int)) := by omega
                      obtain ⟨bb, bo, x, rfl, hlo, hbb, hx, cx⟩ := Hrj.out.at_ hjl
                      have hxm : x ∈ pickTo F 6 := by rw [← Hxp.out]; exact List.mem_of_getElem? hx
                      obtain ⟨q, hq6, hFq, rfl⟩ := (pickTo_mem _ _ _).1 hxm
                      clear hxm hx
                      have hq6' : (q : Int) < 6 := by omega
                      have q1 : decide ((q : Int) < 0) = false := by rw [decide_eq_false_iff_not]; omega
                      have q2 : decide ((6 : Int) ≤ (q : Int)) = false := by rw [decide_eq_false_iff_not]; omega
                      have hcq : wr.cell? ⟨wA.heap.size, q, none⟩ = some (.int .i64 1) := by
                        have := Hrow7.out.cell hq6
                        rw [inV, if_pos hFq] at this; exact this
                      go_wp2_with fail
                      go_roundw
                      case rel => exact ⟨j + 1, by omega, by go_num, by go_num, by first | rfl | trivial⟩
                      case measure => simp [intOf]; omega
                    · have hjl' : ¬ ((j : Int) < (m : Int)) := by omega
                      obtain rfl : j = m := by omega
                      have a0 := Hrow7.out.cell (i := 0) (by omega)
                      have a1 := Hrow7.out.cell (i := 1) (by omega)
                      have a2 := Hrow7.out.cell (i := 2) (by omega)
                      have a3 := Hrow7.out.cell (i := 3) (by omega)
                      have a4 := Hrow7.out.cell (i := 4) (by omega)
                      have a5 := Hrow7.out.cell (i := 5) (by omega)
                      have hpm : (pickTo F 6).length = j := by rw [← Hxp.out]; exact Hmm.out
                      have Hpm := hide hpm
                      clear hpm
                      go_wp2_with fail
                      clear a0 a1 a2 a3 a4 a5
                      obtain ⟨wE, rfl⟩ : ∃ wE, wE = wr := ⟨_, rfl⟩
                      go_loopw [11, 115] (fun a i wr => ∃ (p l : Nat), p ≤ 6 ∧ i = .int .i64 p ∧ l ≤ p ∧ Hid ((pickTo F p).length = l) ∧ a = .int .i64 ((j : Int) - (l : Int)) ∧ wr = wE) (fun _ i _ => 6 - (intOf i).toNat)
                      case atStart => exact ⟨0, 0, by omega, rfl, by omega, hide rfl, by simp, rfl⟩
                      case round =>
                        obtain ⟨p, l, hp, rfl, hlp, HL, rfl, rfl⟩ := hrel
                        by_cases hpl : p < 6
                        · have hpl' : ((p : Int) < 6) := by omega
                          have hix := in_idx F p hpl
                          have Hps := hide (pickTo_succ F p)
                          cases hF : F p
                          · have Hp2 : Hid ((pickTo F (p + 1)).length = l) := hide (by rw [Hps.out, hF]; exact HL.out)
                            have hv : inV F p = .int .i64 0 := by unfold inV; rw [hF]; rfl
                            rw [hv] at hix
                            go_wp2_with fail
                            go_roundw
                            case rel => exact ⟨p + 1, l, by omega, by go_num, by omega, Hp2, by go_num, by first | rfl | trivial⟩
                            case measure => simp [intOf]; omega
                          · have Hp2 : Hid ((pickTo F (p + 1)).length = l + 1) := hide (by rw [Hps.out, hF]; simp [HL.out])
                            have hv : inV F p = .int .i64 1 := by unfold inV; rw [hF]; rfl
                            rw [hv] at hix
                            go_wp2_with fail
                            go_roundw
                            case rel => exact ⟨p + 1, l + 1, by omega, by go_num, by omega, Hp2, by go_num, by first | rfl | trivial⟩
                            case measure => simp [intOf]; omega
                        · have hpl' : ¬ ((p : Int) < 6) := by omega
                          obtain rfl : p = 6 := by omega
                          have hlj : l = j := by rw [← HL.out, Hpm.out]
                          subst hlj
                          have hz0' : ((l : Int) - (l : Int) != 0) = false := by simp
                          go_wp2_with fail
                          go_roundw
                          case rel => exact ⟨2, by omega, rfl, Hb7.out⟩
                          case measure => simp [intOf]
        · have hzr := HbR.out.size
          obtain ⟨f0, f1, f2⟩ := Hbox2.out.below HbR.out (by omega)
          obtain ⟨hft, _⟩ := (fits_iff t).1 ((may_iff t).1 Hm.out).1
          have hfe := fz_eq t
          have hfz60 : 1 + fzK t.kids ≤ 60 := by omega
          obtain ⟨wA, rfl⟩ : ∃ wA, wA = wr := ⟨_, rfl⟩
          go_wp2_with fail
          clear f0 f1 f2
          go_loopw [3, 128] (fun a i wr => ∃ (k : Nat) (q : Int), k ≤ len ∧ i = .int .i64 k ∧ a = .int .i64 q ∧ 1 ≤ q ∧ q ≤ 60 ∧ Hid (q = 1 + fzK (t.kids.take k)) ∧ Below wA.heap.size wA wr) (fun _ i _ => len - (intOf i).toNat)
          case atStart => exact ⟨0, 1, by omega, rfl, rfl, by omega, by omega, hide (by simp [fzK]), Below.refl _ _⟩
          case round =>
            obtain ⟨k, q, hk, rfl, rfl, hq1, hq2, HQ, hb⟩ := hrel
            have Hb := hide hb
            clear hb
            have hz := Hb.out.size
            have Hbw := hide (HbR.out.trans (Hb.out.mono hzr))
            by_cases hlt : k < len
            · have hlt' : ((k : Int) < (len : Int)) := by omega
              obtain ⟨b, off, u, op2, n2, A2, l2, c2, rfl, hbB, hku, ⟨c0, c1, cs⟩, hre2⟩ := (Hre2.out.below (Hbw.out.mono (by omega))).at_ hlt
              have Hmu := hide (may_kid Hm.out hku)
              have Hnu := hide (nodes_fit ((may_iff u).1 Hmu.out).1)
              have Htk := hide (fzK_take hku)
              have htl := fzK_take_le t.kids (k + 1)
              have hpu := fz_pos u
              have hq3 : q + fz u = 1 + fzK (t.kids.take (k + 1)) := by rw [Htk.out, HQ.out]; omega
              have hq4 : q + fz u ≤ 60 := by omega
              have Hq3 := hide hq3
              clear hku hq3 htl
              have Hre3 := hide (hre2.below ((Below.refl B wr).alloc (by omega) (.cells #[.int .i64 op2, .int .i64 n2, .slice A2 l2 c2] 24)))
              clear hre2
              have hz5 : (wr.alloc (.cells #[.int .i64 op2, .int .i64 n2, .slice A2 l2 c2] 24)).heap.size = wr.heap.size + 1 := by simp
              have Hbk := hide (box_new wr op2 n2 A2 l2 c2 24)
              have Hb4 := hide (Hb.out.alloc (by omega) (.cells #[.int .i64 op2, .int .i64 n2, .slice A2 l2 c2] 24))
              go_wp2_with fail
              clear c0 c1 cs
              generalize wr.alloc (.cells #[.int .i64 op2, .int .i64 n2, .slice A2 l2 c2] 24) = wK at *
              refine (may_any B d op2 n2 A2 l2 c2 u wK (by omega) Hre3.out).mono ?_
              rintro e w5 ⟨rfl, hb5⟩
              rw [Hmu.out]
              have hz6 := hb5.size
              obtain ⟨e0, e1, e2⟩ := Hbk.out.below hb5 (by omega)
              have Hre5 := hide (Hre3.out.below (hb5.mono (by omega)))
              have Hb5 := hide (Hb4.out.trans (hb5.mono (by omega)))
              clear hb5 Hre3 Hb4 Hbk
              go_wp2_with fail
              refine (nodes_any B d op2 n2 A2 l2 c2 u w5 (by omega) Hre5.out).mono ?_
              rintro e w6 ⟨rfl, hb6⟩
              rw [Hnu.out]
              have Hb6 := hide (Hb5.out.trans (hb6.mono (by omega)))
              clear hb6 e0 e1 e2 Htk Hnu Hmu
              generalize fz u = z at *
              go_wp2_with fail
              go_roundw
              case rel => exact ⟨_, _, _, _, _, _, _, _, _, _, _, _, _, _, _, ⟨k + 1, q + z, by omega, by go_num, by go_num, by omega, by omega, Hq3, Hb6.out⟩, rfl⟩
              case measure => simp [intOf]; omega
            · have hlt' : ¬ ((k : Int) < (len : Int)) := by omega
              have hqn : q = nodesE t := by
                rw [HQ.out, List.take_of_length_le (by rw [Hlen.out]; omega), nodes_fit ((may_iff t).1 Hm.out).1, hfe]
              have n1 : (nodesE t == q) = true := by rw [hqn]; simp
              have n2 : ((len : Int) == kidsOf op) = true := by
                have h := sound_len ((may_iff t).1 Hm.out).2
                rw [Hlen.out] at h
                rw [h, show t.op = op by rw [Htm.out]; rfl]; simp
              have Hre9 := hide (Hre2.out.below (Hbw.out.mono (by omega)))
              have Hbox9 := hide (Hbox2.out.below Hbw.out (by omega))
              have hBW : B ≤ wr.heap.size := by omega
              have Hbf := hide (Hb2.out.trans (Hbw.out.mono (by omega)))
              have C0 := cell_regrown Hbox9.out.1
              have C1 := cell_regrown Hbox9.out.2.1
              have C2 := cell_regrown Hbox9.out.2.2
              clear hqn HQ Hbox9 Hbox2 Hre2 Hbw Hb HbR hft hfe hfz60 Htm Hlen Hm Hnn Hb2
              go_wp2_with fail
              refine wp_region_quiet_below (by kernel_rfl) (by kernel_rfl) ?_
              repeat (go_big_quiet_step (first | (go_at_call 15; exact q_nodes hBW (by assumption)) | (go_at_call 20; exact q_kids) | (go_at_call 10; exact q_awake)))
              refine wpQuiet_nil ?_
              intro w9 hw9
              obtain ⟨p, hp⟩ := hw9
              have hb9 : Below wr.heap.size wr w9 := by rw [hp]; exact below_regrown wr p.d p.os
              have Hf := hide (Hbf.out.trans (hb9.mono (by omega)))
              clear hp hb9 C0 C1 C2
              go_wp2_with fail
              go_ret
              exact ⟨rfl, Hf.out⟩

    · have m1 : (mayE t != 0) = true := by simp [hm]
      have Hm := hide hm
      clear hm
      have hBW : B ≤ w2.heap.size := by omega
      have C0 := cell_regrown Hbox2.out.1
      have C1 := cell_regrown Hbox2.out.2.1
      have C2 := cell_regrown Hbox2.out.2.2
      go_wp2_with fail
      refine wp_region_quiet_below (by kernel_rfl) (by kernel_rfl) ?_
      repeat (go_big_quiet_step (first | (go_at_call 18; exact q_none hBW (by assumption) (by assumption)) | (go_at_call 10; exact q_awake)))
      refine wpQuiet_nil ?_
      intro w3 hw3
      obtain ⟨p, hp⟩ := hw3
      have hb3 : Below w2.heap.size w2 w3 := by rw [hp]; exact below_regrown w2 p.d p.os
      have Hf := hide (Hb2.out.trans (hb3.mono (by omega)))
      clear hp hb3 C0 C1 C2
      go_wp2_with fail
      go_ret
      exact ⟨rfl, Hf.out⟩
end Go.Proofs.Ytjllnnbnhkmjkaa
