/- The program's choice: choices. -/
import Derived.Test.YtbppdalfcldodaaGreatGCd
set_option maxRecDepth 100000
namespace Go.Proofs.YtbppdalfcldodaaGreat
open Go.RowKit Ex
open Go.Sort (grow)
set_option linter.unusedSimpArgs false
set_option linter.unusedVariables false

def BoxC (w : World) (g : Nat) (op n : Int) (A : Option Addr) (len cap : Nat) (sA : Option Addr) (sn sc : Nat) : Prop := w.cell? ⟨g, 0, none⟩ = some (.int .i64 op) ∧ w.cell? ⟨g, 1, none⟩ = some (.int .i64 n) ∧ w.cell? ⟨g, 2, none⟩ = some (.slice A len cap) ∧ w.cell? ⟨g, 3, none⟩ = some (.slice sA sn sc)
theorem boxC_new (w : World) (op n : Int) (A : Option Addr) (len cap : Nat) (sA : Option Addr) (sn sc : Nat) (t : TypeId) : BoxC (w.alloc (.cells #[.int .i64 op, .int .i64 n, .slice A len cap, .slice sA sn sc] t)) w.heap.size op n A len cap sA sn sc :=
  ⟨cell_of_row _ _ 0 _ t (0, 0) (heap_alloc_new w _), cell_of_row _ _ 1 _ t (0, 0) (heap_alloc_new w _), cell_of_row _ _ 2 _ t (0, 0) (heap_alloc_new w _), cell_of_row _ _ 3 _ t (0, 0) (heap_alloc_new w _)⟩
theorem BoxC.below {w w' : World} {B g : Nat} {op n : Int} {A : Option Addr} {len cap : Nat} {sA : Option Addr} {sn sc : Nat} (h : BoxC w g op n A len cap sA sn sc) (hb : Below B w w') (hB : g < B) : BoxC w' g op n A len cap sA sn sc :=
  ⟨(hb.cell hB).trans h.1, (hb.cell hB).trans h.2.1, (hb.cell hB).trans h.2.2.1, (hb.cell hB).trans h.2.2.2⟩
def chosen (lv : List Dom.V) (now nx b : Int) (cs : List CT) (i : Int) : Bool := cs.any (fun c => trueE lv c.guard now nx && decide (i ∈ leadsL (stepsL lv now nx b) c.sets b))
theorem chosen_snoc {lv : List Dom.V} {now nx b : Int} {cs : List CT} {k : Nat} {c : CT} (h : cs[k]? = some c) (i : Int) : chosen lv now nx b (cs.take (k + 1)) i = (chosen lv now nx b (cs.take k) i || (trueE lv c.guard now nx && decide (i ∈ leadsL (stepsL lv now nx b) c.sets b))) := by
  unfold chosen
  rw [List.take_add_one, h]
  simp
theorem orV_step {f : Nat → Bool} {xs : List Int} {k x : Nat} (h : xs[k]? = some (x : Int)) (i : Nat) : (if i = x then Value.bool true else .bool (f i || decide ((i : Int) ∈ xs.take k))) = .bool (f i || decide ((i : Int) ∈ xs.take (k + 1))) := by
  rw [mem_take_succ h]
  by_cases e : i = x
  · subst e; rw [if_pos rfl]; simp
  · rw [if_neg e]
    have : decide ((i : Int) = (x : Int)) = false := by simp; omega
    rw [this, Bool.or_false]

set_option maxHeartbeats 2000000 in
theorem choices_any (B : Nat) (Av : Option Addr) (nv cv : Nat) (lv : List Dom.V) (now nx b : Int) (cA : Option Addr) (cn cc : Nat) (cs : List CT) (w : World) (ho : OkVars ⟨Av, nv, cv⟩ lv) (hB : B ≤ w.heap.size)
    (hrv : Dom.RV w B Av nv lv) (hrc : Rows CmdAt 4 w B ⟨cA, cn, cc⟩ cs) (hM : Dom.mayL lv = 0) (h0 : 0 ≤ b) (h1 : b < Dom.totL lv) (ha : ∀ c ∈ cs, Apart lv c.sets ∧ c.sets.length ≤ 6) (hcn : cn ≤ 12) (tn : Nat) (ht : Dom.totL lv = (tn : Int)) (ht512 : tn ≤ 512) :
    Calls Tryz.prog 63 #[.agg #[.slice Av nv cv, .int .i64 now, .int .i64 nx, .int .i64 b], .slice cA cn cc] w (IntsPost w (upTo (fun i => chosen lv now nx b cs i) tn)) := by
  have hbx : Below w.heap.size w (w.alloc (.cells #[.slice Av nv cv, .int .i64 now, .int .i64 nx, .int .i64 b] 93)) := (Below.refl _ _).alloc (Nat.le_refl _) _
  have Hbox := hide (boxT_new w Av nv cv now nx b 93)
  have hz0 : (w.alloc (.cells #[.slice Av nv cv, .int .i64 now, .int .i64 nx, .int .i64 b] 93)).heap.size = w.heap.size + 1 := by simp
  have Hrv := hide (hrv.below (hbx.mono hB))
  have Hrc := hide (hrc.keep (w' := w.alloc (.cells #[.slice Av nv cv, .int .i64 now, .int .i64 nx, .int .i64 b] 93)) (fun b o y h1 hy => CmdAt.keep h1 hy (fun p hp => (hbx.mono hB).cell hp)))
  have Hbx := hide hbx
  have Ho := hide ho
  have HM := hide hM
  have Ha := hide ha
  have Hcl := hide hrc.1
  clear hbx hrv hrc ho hM ha
  obtain ⟨q0, q1, q2, q3⟩ := Hbox.out
  go_enter Tryz.func63, Tryz.ntmps63
  go_wp2_with fail
  clear q0 q1 q2 q3
  generalize w.alloc (.cells #[.slice Av nv cv, .int .i64 now, .int .i64 nx, .int .i64 b] 93) = W at *
  refine (Dom.total_any Av nv cv B lv W Ho.out.1 (by omega) Hrv.out).mono ?_
  rintro e w1 ⟨rfl, hb1⟩
  have hz1 := hb1.size
  have Hb1 := hide (Hbx.out.trans (hb1.mono (by omega)))
  have Hrv1 := hide (Hrv.out.below (hb1.mono (by omega)))
  have Hrc1 := hide (Hrc.out.keep (w' := w1) (fun b o y h1 hy => CmdAt.keep h1 hy (fun p hp => (hb1.mono (show B ≤ W.heap.size by omega)).cell hp)))
  have Hbox1 := hide (Hbox.out.below hb1 (by omega))
  clear hb1 Hrv Hrc Hbox Hbx
  have h1' := h1
  rw [ht] at h1'
  rw [ht]
  have hmk := run_make_row' (P := Tryz.prog) 47 4 (.bool false) 1 Tryz.underlying47 info4 rfl .i64 .i64 tn (by omega) (by omega)
  go_wp2_with fail
  clear hmk
  have hrow := World.rowIs_made w1 (.bool false) tn 4
  have Hb2 := hide ((Below.refl w1.heap.size w1).alloc (Nat.le_refl _) (.cells (madeCells #[.bool false] tn) 4))
  generalize hw2 : w1.alloc (.cells (madeCells #[.bool false] tn) 4) = w2 at *
  clear hw2
  go_loopw [16] (fun i wr => ∃ k : Nat, k ≤ cn ∧ i = .int .i64 k ∧ wr.rowIs w1.heap.size 4 tn (fun i => .bool (chosen lv now nx b (cs.take k) (i : Int))) ∧ Below w1.heap.size w1 wr) (fun i _ => cn - (intOf i).toNat)
  case atStart => exact ⟨0, by omega, rfl, hrow.congr (fun i hi => by simp [chosen]), Hb2.out⟩
  case round =>
    obtain ⟨k, hk, rfl, hrw, hb⟩ := hrel
    have Hrw := hide hrw
    have Hb := hide hb
    have hzr := hb.size
    clear hrw hb hrow Hb2
    by_cases hlt : k < cn
    · have hlt' : ((k : Int) < (cn : Int)) := by omega
      have hbV := Hb.out.mono (show B ≤ w1.heap.size by omega)
      obtain ⟨cb, co, c, eA, hcb, hku, ⟨⟨⟨eo, en, eA2, el, ec⟩, ⟨c0, c1, c2⟩, ⟨dd, hes⟩⟩, ⟨sA, sn, sc⟩, c3, hss⟩⟩ := (Hrc1.out.keep (w' := wr) (fun b o y h1 hy => CmdAt.keep h1 hy (fun p hp => hbV.cell hp))).at_ (k := k) hlt
      simp only [SL.v] at eA c0 c1 c2 c3 hes hss
      subst eA
      obtain ⟨a0, a1⟩ := Ha.out c (List.mem_of_getElem? hku)
      have hsn : sn ≤ 6 := by have := hss.1; simp only at this; omega
      have Hsn := hide (fun i => chosen_snoc (lv := lv) (now := now) (nx := nx) (b := b) hku i)
      have Ha0 := hide a0
      have hbA := (Below.refl wr.heap.size wr).alloc (Nat.le_refl _) (.cells #[.int .i64 eo, .int .i64 en, .slice eA2 el ec, .slice sA sn sc] 71)
      have Hcmd := hide (boxC_new wr eo en eA2 el ec sA sn sc 71)
      have hzA : (wr.alloc (.cells #[.int .i64 eo, .int .i64 en, .slice eA2 el ec, .slice sA sn sc] 71)).heap.size = wr.heap.size + 1 := by simp
      have Hes := hide (hes.below (hbA.mono (by omega)))
      have Hss := hide (hss.keep (w' := wr.alloc (.cells #[.int .i64 eo, .int .i64 en, .slice eA2 el ec, .slice sA sn sc] 71)) (fun b o y h1 hy => SetAt.keep h1 hy (fun p hp => (hbA.mono (show B ≤ wr.heap.size by omega)).cell hp)))
      have Hrv2 := hide ((Hrv1.out.below hbV).below (hbA.mono (by omega)))
      have Hbox2 := hide ((Hbox1.out.below Hb.out (by omega)).below hbA (by omega))
      have Hb2 := hide (Hb.out.trans (hbA.mono hzr))
      have Hrw2 := hide (Hrw.out.alloc (.cells #[.int .i64 eo, .int .i64 en, .slice eA2 el ec, .slice sA sn sc] 71))
      clear hes hss hbV hbA a0 a1 Hrw Hb hku
      obtain ⟨s0, s1, s2, s3⟩ := Hcmd.out
      obtain ⟨q0, q1, q2, q3⟩ := Hbox2.out
      go_wp2_with fail
      clear s0 s1 s2 s3 q0 q1 q2 q3 c0 c1 c2 c3
      generalize wr.alloc (.cells #[.int .i64 eo, .int .i64 en, .slice eA2 el ec, .slice sA sn sc] 71) = w3 at *
      refine (dtrue_any B Av nv cv lv dd eo en eA2 el ec c.guard now nx w3 Ho.out.1 Ho.out.2.1 Ho.out.2.2.1 (by omega) Hes.out Hrv2.out Ho.out.2.2.2).mono ?_
      rintro e w4 ⟨rfl, hb4⟩
      have hz4 := hb4.size
      have Hb4 := hide (Hb2.out.trans (hb4.mono (by omega)))
      have Hrv4 := hide (Hrv2.out.below (hb4.mono (by omega)))
      have Hss4 := hide (Hss.out.keep (w' := w4) (fun b o y h1 hy => SetAt.keep h1 hy (fun p hp => (hb4.mono (show B ≤ w3.heap.size by omega)).cell hp)))
      have Hbox4 := hide (Hbox2.out.below hb4 (by omega))
      have Hcmd4 := hide (Hcmd.out.below hb4 (by omega))
      have Hrw4 := hide (Hrw2.out.of_block (hb4.block w1.heap.size (by have := Hrw2.out.lt; omega)))
      clear hb4 Hb2 Hrv2 Hss Hbox2 Hcmd Hrw2 Hes
      generalize htr : trueE lv c.guard now nx = tr at *
      cases tr
      · go_wp2_with fail
        go_roundw
        case rel => exact ⟨k + 1, by omega, by go_num, Hrw4.out.congr (fun i hi => by rw [Hsn.out]; simp), Hb4.out⟩
        case measure => simp [intOf]; omega
      · obtain ⟨s0, s1, s2, s3⟩ := Hcmd4.out
        obtain ⟨q0, q1, q2, q3⟩ := Hbox4.out
        go_wp2_with fail
        clear s0 s1 s2 s3 q0 q1 q2 q3
        refine (leads_any B Av nv cv lv now nx b sA sn sc c.sets w4 Ho.out (by omega) Hrv4.out Hss4.out HM.out h0 h1 Ha0.out hsn).mono ?_
        intro e w5 hp
        obtain ⟨O4, n4, c4, rfl, p2, p3, p4⟩ := hp
        have hz5 := p4.size
        have Hb5 := hide (Hb4.out.trans (p4.mono (by omega)))
        have Hxs := hide (Dom.own_ri p2)
        have hG4 : w1.heap.size < w4.heap.size := Hrw4.out.lt
        have Hfar : Hid (∀ xb xo, O4 = some ⟨xb, xo, none⟩ → 0 < n4 → w4.heap.size ≤ xb) := hide (fun xb xo e hn => by
          obtain ⟨g, cap, hv, hbg, _⟩ := p2.form hn
          injection hv with hv
          rw [hv] at e
          injection e with e
          injection e with e1
          omega)
        have Hrw5 := hide (Hrw4.out.of_block (p4.block w1.heap.size (by have := Hrw4.out.lt; omega)))
        have hn4 : n4 ≤ 512 := by rw [← p3]; exact leads_512 HM.out Ha0.out
        have Hmem : Hid (∀ x ∈ leadsL (stepsL lv now nx b) c.sets b, 0 ≤ x ∧ x < (tn : Int)) := hide (fun x hx => by have := ((leads_all HM.out h0 h1 Ha0.out x).1 hx).1; rw [ht] at this; exact this)
        have hG : w1.heap.size < w5.heap.size := Hrw5.out.lt
        clear p2 p4 Hb4 Hrv4 Hss4 Hbox4 Hcmd4 Hrw4
        generalize leadsL (stepsL lv now nx b) c.sets b = xs at *
        go_wp2_with fail
        go_loopw [35] (fun i wr => ∃ j : Nat, j ≤ n4 ∧ i = .int .i64 j ∧ wr.rowIs w1.heap.size 4 tn (fun i => .bool (chosen lv now nx b (cs.take k) (i : Int) || decide ((i : Int) ∈ xs.take j))) ∧ Onl w1.heap.size w5 wr) (fun i _ => n4 - (intOf i).toNat)
        case atStart => exact ⟨0, by omega, rfl, Hrw5.out.congr (fun i hi => by simp), Onl.refl _ _⟩
        case round =>
          obtain ⟨j, hj, rfl, hrw6, hon⟩ := hrel
          have Hrw6 := hide hrw6
          have Hon := hide hon
          have hz6 := hon.size
          clear hrw6 hon
          by_cases hlt2 : j < n4
          · have hlt2' : ((j : Int) < (n4 : Int)) := by omega
            obtain ⟨xb, xo, x, eX, hxb, hxq, cx⟩ := Hxs.out.at_ hlt2
            have hfar := Hfar.out xb xo eX (by omega)
            subst eX
            have cx' := (Hon.out.cell (p := ⟨xb, xo + j, none⟩) (by exact hxb) (by show xb ≠ w1.heap.size; omega)).trans cx
            obtain ⟨x0, x1⟩ := Hmem.out x (List.mem_of_getElem? hxq)
            obtain ⟨xn, rfl⟩ := Int.eq_ofNat_of_zero_le x0
            have hxt : xn < tn := by omega
            obtain ⟨u, hu⟩ : ∃ u, wr.cell? ⟨w1.heap.size, xn, none⟩ = some u := ⟨_, Hrw6.out.cell hxt⟩
            have hfz := Hrw6.out.frozen xn
            go_wp2_with fail
            go_roundw
            case rel => exact ⟨j + 1, by omega, by go_num, (Hrw6.out.set xn _).congr (fun i hi => orV_step (f := fun i => chosen lv now nx b (cs.take k) (i : Int)) hxq i), Hon.out.set xn _⟩
            case measure => simp [intOf]; omega
          · have hlt2' : ¬ ((j : Int) < (n4 : Int)) := by omega
            obtain rfl : j = n4 := by omega
            go_wp2_with fail
            go_roundw
            case rel => exact ⟨k + 1, by omega, by go_num, Hrw6.out.congr (fun i hi => by rw [Hsn.out, ← p3, List.take_length]; simp), Hb5.out.trans (Hon.out.below (by omega) (by omega))⟩
            case measure => simp [intOf]; omega
    · have hlt' : ¬ ((k : Int) < (cn : Int)) := by omega
      obtain rfl : k = cn := by omega
      go_wp2_with fail
      have Hall : Hid (wr.rowIs w1.heap.size 4 tn (fun i => .bool (chosen lv now nx b cs (i : Int)))) := hide (Hrw.out.congr (fun i hi => by rw [← Hcl.out, List.take_length]))
      refine (listed_any w1.heap.size tn (fun i => chosen lv now nx b cs (i : Int)) wr Hall.out ht512).mono ?_
      intro e w4 hp
      obtain ⟨O4, n4, c4, rfl, p2, p3, p4⟩ := hp
      have Hp : Hid (IntsPost w (upTo (fun i => chosen lv now nx b cs i) tn) (.returned (.slice O4 n4 c4)) w4) := hide (by
        refine ints_up (w1 := wr) ?_ (Hb1.out.trans (Hb.out.mono (by omega)))
        rw [show upTo (fun i => chosen lv now nx b cs i) tn = upTo (fun i => chosen lv now nx b cs ((i.toNat : Nat) : Int)) tn from upTo_congr (fun k _ => by rw [Int.toNat_natCast])]
        exact ⟨O4, n4, c4, rfl, p2, p3, p4⟩)
      clear p2 p3 p4
      go_wp2_with fail
      go_ret
      exact Hp.out
end Go.Proofs.YtbppdalfcldodaaGreat
