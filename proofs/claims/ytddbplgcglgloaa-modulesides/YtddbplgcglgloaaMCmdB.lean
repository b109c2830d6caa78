/- The walk of the reference's MayCommand. -/
import Derived.Test.YtddbplgcglgloaaMCmd
namespace Go.Proofs.Ytddbplgcglgloaa
open Go.RowKit Ex
open Go.Sort (grow)
set_option linter.unusedSimpArgs false
set_option linter.unusedVariables false

theorem box4 (w : World) (go gn : Int) (gA : Option Addr) (gl gc : Nat) (sA : Option Addr) (sn sc : Nat) : Box3 (w.alloc (.cells #[.int .i64 go, .int .i64 gn, .slice gA gl gc, .slice sA sn sc] 31)) w.heap.size go gn gA gl gc ∧ (w.alloc (.cells #[.int .i64 go, .int .i64 gn, .slice gA gl gc, .slice sA sn sc] 31)).cell? ⟨w.heap.size, 3, none⟩ = some (.slice sA sn sc) := by
  unfold Box3
  simp [go_sem]
def Box5 (w : World) (b : Nat) (z : Int) (p : Bool) (op n : Int) (A : Option Addr) (len cap : Nat) : Prop := w.cell? ⟨b, 0, none⟩ = some (.int .i64 z) ∧ w.cell? ⟨b, 1, none⟩ = some (.bool p) ∧ w.cell? ⟨b, 2, none⟩ = some (.int .i64 op) ∧ w.cell? ⟨b, 3, none⟩ = some (.int .i64 n) ∧ w.cell? ⟨b, 4, none⟩ = some (.slice A len cap)
theorem box5_new (w : World) (z : Int) (p : Bool) (op n : Int) (A : Option Addr) (len cap : Nat) : Box5 (w.alloc (.cells #[.int .i64 z, .bool p, .int .i64 op, .int .i64 n, .slice A len cap] 40)) w.heap.size z p op n A len cap := by
  unfold Box5
  simp [go_sem]
theorem Box5.far {w w' : World} {b : Nat} {z : Int} {p : Bool} {op n : Int} {A : Option Addr} {len cap : Nat} (h : Box5 w b z p op n A len cap) (hk : ∀ q : Addr, q.block = b → w'.cell? q = w.cell? q) : Box5 w' b z p op n A len cap :=
  ⟨(hk _ rfl).trans h.1, (hk _ rfl).trans h.2.1, (hk _ rfl).trans h.2.2.1, (hk _ rfl).trans h.2.2.2.1, (hk _ rfl).trans h.2.2.2.2⟩
theorem set_drop {l : List ST} {k : Nat} {s : ST} (h : l[k]? = some s) : l.drop k = s :: l.drop (k + 1) := drop_at h

set_option maxRecDepth 100000 in
set_option maxHeartbeats 8000000 in
theorem rcmd_any (B : Nat) (Av : Option Addr) (nv cv : Nat) (lv : List Dom.V) (x : C2) (c : CT) (env : Bool) (w : World) (ho : OkVars ⟨Av, nv, cv⟩ lv) (hB : B ≤ w.heap.size) (hrc : RC w B x c) (hrv : Dom.RV w B Av nv lv) :
    Calls Try.prog 35 #[.slice Av nv cv, .agg x.cells, .bool env] w fun e w' => e = .returned (.int .i64 (cmdE lv c env)) ∧ Below w.heap.size w w' := by
  obtain ⟨⟨go, gn, gA, gl, gc⟩, ⟨sA, sn, sc⟩⟩ := x
  obtain ⟨hex, hrs⟩ := hrc
  have hsl := hrs.1
  have hsc := hrs.2.1
  have hsm := hrs.2.2.1
  simp only at hsl hsc hsm
  unfold maxLen at hsm
  have hnv := ho.1
  simp only at hnv
  unfold maxLen at hnv
  have Hnl := hide hrv.1
  have hbx := (Below.refl w.heap.size w).alloc (Nat.le_refl _) (.cells #[.int .i64 go, .int .i64 gn, .slice gA gl gc, .slice sA sn sc] 31)
  obtain ⟨bx, bs⟩ := box4 w go gn gA gl gc sA sn sc
  have hz0 : (w.alloc (.cells #[.int .i64 go, .int .i64 gn, .slice gA gl gc, .slice sA sn sc] 31)).heap.size = w.heap.size + 1 := by simp
  have Hex := hide (hex.below (hbx.mono hB))
  have Hrs := hide (hrs.keep (w' := w.alloc (.cells #[.int .i64 go, .int .i64 gn, .slice gA gl gc, .slice sA sn sc] 31)) (fun b o y h1 hy => SetAt.keep h1 hy (fun p hp => (hbx.mono hB).cell hp)))
  have Hrv := hide (hrv.below (hbx.mono hB))
  have Hbx := hide bx; have Hbs := hide bs; have Hb0 := hide hbx
  have Ho := hide ho
  have Hsl := hide hsl
  have Hc : Hid (cmdE lv c env = if Dom.mayL lv = 0 then (if needE lv c.guard 1 true (!env) false = 0 then (if 6 < c.sets.length then 7 else setGo lv env [] c.sets) else needE lv c.guard 1 true (!env) false) else Dom.mayL lv) := hide rfl
  clear hex hrs hrv hbx bx bs ho hsl
  simp only [C2.cells, SL.v]
  go_enter Try.func35, Try.ntmps35
  go_wp2_with fail
  generalize w.alloc (.cells #[.int .i64 go, .int .i64 gn, .slice gA gl gc, .slice sA sn sc] 31) = W at *
  have hzW : w.heap.size + 1 ≤ W.heap.size := by omega
  clear hz0
  refine (Dom.rmay_any Av nv cv B lv W Ho.out.1 Ho.out.2.1 Ho.out.2.2.1 (by omega) Hrv.out Ho.out.2.2.2).mono ?_
  rintro e w1 ⟨rfl, hb1⟩
  have hz1 := hb1.size
  have Hb1 := hide (Hb0.out.trans (hb1.mono (by omega)))
  have Hex1 := hide (Hex.out.below (hb1.mono (by omega)))
  have Hrs1 := hide (Hrs.out.keep (w' := w1) (fun b o y h1 hy => SetAt.keep h1 hy (fun p hp => (hb1.mono (by omega)).cell hp)))
  have Hrv1 := hide (Hrv.out.below (hb1.mono (by omega)))
  have Hbx1 := hide (Hbx.out.below hb1 (by omega))
  have Hbs1 := hide ((hb1.cell (p := ⟨w.heap.size, 3, none⟩) (by show w.heap.size < W.heap.size; omega)).trans Hbs.out)
  clear hb1 Hb0 Hex Hrs Hrv Hbx Hbs
  by_cases hm : Dom.mayL lv = 0
  · have hmb : (Dom.mayL lv != 0) = false := by simp [hm]
    rw [if_pos hm] at Hc
    have hlen6 : nv ≤ 6 := by
      have := Dom.totL_len (Dom.mayL_zero hm).2
      rw [Hnl.out] at this; exact this
    clear hm
    obtain ⟨f0, f1, f2⟩ := Hbx1.out
    obtain ⟨dg, hdg⟩ := Hex1.out
    have Hdg := hide hdg
    clear hdg
    go_wp2_with fail
    clear f0 f1 f2
    refine (rneeds_any B Av nv cv lv dg go gn gA gl gc c.guard 1 true (!env) false w1 Ho.out.1 Ho.out.2.1 Ho.out.2.2.1 (by omega) Hdg.out Hrv1.out Ho.out.2.2.2).mono ?_
    rintro e w2 ⟨rfl, hb2⟩
    have hz2 := hb2.size
    have Hb2 := hide (Hb1.out.trans (hb2.mono (by omega)))
    have Hrs2 := hide (Hrs1.out.keep (w' := w2) (fun b o y h1 hy => SetAt.keep h1 hy (fun p hp => (hb2.mono (by omega)).cell hp)))
    have Hrv2 := hide (Hrv1.out.below (hb2.mono (by omega)))
    have Hbs2 := hide ((hb2.cell (p := ⟨w.heap.size, 3, none⟩) (by show w.heap.size < w1.heap.size; omega)).trans Hbs1.out)
    clear hb2 Hb1 Hex1 Hrs1 Hrv1 Hbx1 Hbs1 Hdg
    by_cases hg : needE lv c.guard 1 true (!env) false = 0
    · have hgb : (needE lv c.guard 1 true (!env) false != 0) = false := by simp [hg]
      rw [if_pos hg] at Hc
      clear hg
      have f3 := Hbs2.out
      by_cases hs6 : 6 < sn
      · have hsb : decide ((6 : Int) < (sn : Int)) = true := by simp; omega
        have hsb2 : decide (6 < sn) = true := by simp [hs6]
        have Hf : Hid (cmdE lv c env = 7) := hide (by rw [Hc.out, if_pos (by rw [Hsl.out]; exact hs6)])
        clear hs6
        go_wp2_with fail
        go_ret
        exact ⟨ret_int Hf.out.symm, Hb2.out⟩
      · have hsb : decide ((6 : Int) < (sn : Int)) = false := by simp; omega
        have hsb2 : decide (6 < sn) = false := by simp [hs6]
        rw [if_neg (by rw [Hsl.out]; exact hs6)] at Hc
        have hbA := (Below.refl w2.heap.size w2).alloc (Nat.le_refl _) (.cells #[.bool false, .bool false, .bool false, .bool false, .bool false, .bool false] 86)
        have Hrow := hide (seen_new w2)
        have hzA : w2.heap.size + 1 ≤ (w2.alloc (.cells #[.bool false, .bool false, .bool false, .bool false, .bool false, .bool false] 86)).heap.size := by simp
        have Hb3 := hide (Hb2.out.trans (hbA.mono (by omega)))
        have Hrs3 := hide (Hrs2.out.keep (w' := w2.alloc (.cells #[.bool false, .bool false, .bool false, .bool false, .bool false, .bool false] 86)) (fun b o y h1 hy => SetAt.keep h1 hy (fun p hp => (hbA.mono (by omega)).cell hp)))
        have Hrv3 := hide (Hrv2.out.below (hbA.mono (by omega)))
        have f4 := (hbA.cell (p := ⟨w.heap.size, 3, none⟩) (by show w.heap.size < w2.heap.size; omega)).trans f3
        clear hbA Hb2 Hrs2 Hrv2 Hbs2
        go_wp2_with fail
        clear f3 f4
        generalize w2.alloc (.cells #[.bool false, .bool false, .bool false, .bool false, .bool false, .bool false] 86) = V at *
        generalize hG : w2.heap.size = G at *
        clear hG
        go_loopw [34] (fun i wr => ∃ (k : Nat) (seen : List Int), k ≤ sn ∧ i = .int .i64 k ∧ Hid (setGo lv env seen (c.sets.drop k) = setGo lv env [] c.sets) ∧ wr.rowIs G 86 6 (seenV seen) ∧ Onl G V wr) (fun i _ => sn - (intOf i).toNat)
        case atStart => exact ⟨0, [], by omega, rfl, hide rfl, Hrow.out, Onl.refl _ _⟩
        case round =>
          obtain ⟨k, seen, hk, rfl, HT, hrw, hon⟩ := hrel
          have Hrw := hide hrw
          have Hon := hide hon
          have hzr := hon.size
          have Hbw := hide (Hb3.out.trans (hon.below (B := w.heap.size) (by omega) (by have := Hb3.out.size; omega)))
          clear hrw hon
          by_cases hlt : k < sn
          · have hlt' : ((k : Int) < (sn : Int)) := by omega
            have hbV := Hon.out.below (B := B) (by omega) (by omega)
            obtain ⟨b, off, s, eA, hbB, hku, ⟨c0, c1, ⟨so, sm, sO, sl2, sc2⟩, ⟨c2, c3, c4⟩, hes⟩⟩ := (Hrs3.out.keep (w' := wr) (fun b o y h1 hy => SetAt.keep h1 hy (fun p hp => hbV.cell hp))).at_ (k := k) hlt
            simp only at eA c2 c3 c4
            subst eA
            have Hdr := hide (set_drop hku)
            obtain ⟨z, p, te⟩ := s
            simp only at c0 c1 hes
            have HT2 : Hid (setGo lv env seen (⟨z, p, te⟩ :: c.sets.drop (k + 1)) = cmdE lv c env) := hide (by rw [← Hdr.out, HT.out, Hc.out])
            clear hku HT
            have hbA := (Below.refl wr.heap.size wr).alloc (Nat.le_refl _) (.cells #[.int .i64 z, .bool p, .int .i64 so, .int .i64 sm, .slice sO sl2 sc2] 40)
            have Hes := hide (hes.below (hbA.mono (by omega)))
            have Hrv4 := hide ((Hrv3.out.below hbV).below (hbA.mono (by omega)))
            have Hrw4 := hide (Hrw.out.alloc (.cells #[.int .i64 z, .bool p, .int .i64 so, .int .i64 sm, .slice sO sl2 sc2] 40))
            have Hon4 := hide (Hon.out.alloc (.cells #[.int .i64 z, .bool p, .int .i64 so, .int .i64 sm, .slice sO sl2 sc2] 40))
            have Hb5 := hide (box5_new wr z p so sm sO sl2 sc2)
            have Hbw4 := hide (Hbw.out.trans (hbA.mono (by have := Hbw.out.size; omega)))
            have hz4 : wr.heap.size + 1 ≤ (wr.alloc (.cells #[.int .i64 z, .bool p, .int .i64 so, .int .i64 sm, .slice sO sl2 sc2] 40)).heap.size := by simp
            clear hes hbA hbV
            by_cases hz : z < 0
            · have hzb : decide (z < 0) = true := by simp [hz]
              obtain ⟨d0, d1, d2, d3, d4⟩ := Hb5.out
              have Hf : Hid (cmdE lv c env = 3) := hide (by rw [← HT2.out, setGo, if_pos (.inl hz)])
              go_wp2_with fail
              go_ret
              exact ⟨ret_int Hf.out.symm, Hbw4.out⟩
            · obtain ⟨q, rfl⟩ := Int.eq_ofNat_of_zero_le (show 0 ≤ z by omega)
              have hzb : decide ((q : Int) < 0) = false := by simp
              obtain ⟨d0, d1, d2, d3, d4⟩ := Hb5.out
              clear hz
              by_cases hq : nv ≤ q
              · have hqb : decide ((nv : Int) ≤ (q : Int)) = true := by simp; omega
                have hqc : decide (nv ≤ q) = true := by simp; omega
                have Hf : Hid (cmdE lv c env = 3) := hide (by rw [← HT2.out, setGo, if_pos (.inr (.inl (by rw [Hnl.out]; show (nv : Int) ≤ (q : Int); omega)))])
                go_wp2_with fail
                go_ret
                exact ⟨ret_int Hf.out.symm, Hbw4.out⟩
              · have hqb : decide ((nv : Int) ≤ (q : Int)) = false := by simp; omega
                have hqc : decide (nv ≤ q) = false := by simp; omega
                obtain ⟨vb, vo, v, eAv, hvb, hvq, g0, g1, g2, g3, g4⟩ := Hrv4.out.at_ (k := q) (by omega)
                subst eAv
                have hqn : (q : Int) < (nv : Int) := by omega
                have hq6 : (q : Int) < 6 := by omega
                have hen : envAt lv (q : Int) = v.env := by unfold envAt; simp [hvq]
                have hsrt : srtAt lv (q : Int) = v.srt := by unfold srtAt; simp [hvq]
                clear g0 g3 g4 hvq
                cases env <;> cases hve : v.env
                · rw [hve] at g1 hen
                  have henv := hen
                  by_cases hsn : (q : Int) ∈ seen
                  · have ca : (wr.alloc (.cells #[.int .i64 (q : Int), .bool p, .int .i64 so, .int .i64 sm, .slice sO sl2 sc2] 40)).cell? ⟨G, q, none⟩ = some (.bool true) := (Hrw4.out.cell (i := q) (by omega)).trans (by simp [seenV, hsn])
                    have Hf : Hid (cmdE lv c false = 3) := hide (by rw [← HT2.out, setGo, if_pos (.inr (.inr (.inr hsn)))])
                    go_wp2_with fail
                    go_ret
                    exact ⟨ret_int Hf.out.symm, Hbw4.out⟩
                  · have ca : (wr.alloc (.cells #[.int .i64 (q : Int), .bool p, .int .i64 so, .int .i64 sm, .slice sO sl2 sc2] 40)).cell? ⟨G, q, none⟩ = some (.bool false) := (Hrw4.out.cell (i := q) (by omega)).trans (by simp [seenV, hsn])
                    have hfz := Hrw4.out.frozen q
                    have hno : ¬ ((q : Int) < 0 ∨ (lv.length : Int) ≤ (q : Int) ∨ envAt lv (q : Int) ≠ false ∨ (q : Int) ∈ seen) := by
                      rintro (h | h | h | h)
                      · omega
                      · rw [Hnl.out] at h; omega
                      · exact h henv
                      · exact hsn h
                    have HT3 : Hid ((if p = true then (if zeroE te = true then setGo lv false ((q : Int) :: seen) (c.sets.drop (k + 1)) else 1) else if needE lv te (srtAt lv (q : Int)) true true false = 0 then setGo lv false ((q : Int) :: seen) (c.sets.drop (k + 1)) else needE lv te (srtAt lv (q : Int)) true true false) = cmdE lv c false) := hide (by
                      have h := HT2.out
                      rw [setGo, if_neg hno] at h
                      exact h)
                    clear HT2 hno hsn
                    have hne : wr.heap.size ≠ G := by omega
                    have farB : ∀ q2 : Addr, q2.block ≠ G → ((wr.alloc (.cells #[.int .i64 (q : Int), .bool p, .int .i64 so, .int .i64 sm, .slice sO sl2 sc2] 40)).setCell ⟨G, q, none⟩ (.bool true)).cell? q2 = (wr.alloc (.cells #[.int .i64 (q : Int), .bool p, .int .i64 so, .int .i64 sm, .slice sO sl2 sc2] 40)).cell? q2 := fun q2 h => World.cell?_setCell_far _ _ _ _ (fun e => h e.symm)
                    have Hb6 := hide (Hb5.out.far (w' := (wr.alloc (.cells #[.int .i64 (q : Int), .bool p, .int .i64 so, .int .i64 sm, .slice sO sl2 sc2] 40)).setCell ⟨G, q, none⟩ (.bool true)) (fun q2 hq2 => farB q2 (by rw [hq2]; exact hne)))
                    have Hes6 := hide (Hes.out.keep (w' := (wr.alloc (.cells #[.int .i64 (q : Int), .bool p, .int .i64 so, .int .i64 sm, .slice sO sl2 sc2] 40)).setCell ⟨G, q, none⟩ (.bool true)) (fun p2 hp2 => farB p2 (by omega)))
                    have Hrv6 := hide (Hrv4.out.keep (w' := (wr.alloc (.cells #[.int .i64 (q : Int), .bool p, .int .i64 so, .int .i64 sm, .slice sO sl2 sc2] 40)).setCell ⟨G, q, none⟩ (.bool true)) (fun p2 hp2 => farB p2 (by omega)))
                    have Hrw6 := hide (seen_set (k := q) Hrw4.out)
                    have Hon6 := hide (Hon4.out.set q (.bool true))
                    have Hbw6 := hide (Hbw4.out.setCell (p := ⟨G, q, none⟩) (by show w.heap.size ≤ G; omega) (.bool true))
                    have g2s := (farB ⟨vb, vo + q * 5 + 2, none⟩ (by show vb ≠ G; omega)).trans g2
                    have hz6 : wr.heap.size + 1 ≤ ((wr.alloc (.cells #[.int .i64 (q : Int), .bool p, .int .i64 so, .int .i64 sm, .slice sO sl2 sc2] 40)).setCell ⟨G, q, none⟩ (.bool true)).heap.size := by simp [World.setCell]
                    have Hg2 := hide g2s
                    have k0 := Hb6.out.1
                    have k1 := Hb6.out.2.1
                    clear farB g2s
                    cases p
                    · have HT4 : Hid ((if needE lv te (srtAt lv (q : Int)) true true false = 0 then setGo lv false ((q : Int) :: seen) (c.sets.drop (k + 1)) else needE lv te (srtAt lv (q : Int)) true true false) = cmdE lv c false) := hide (by have h := HT3.out; simpa using h)
                      rw [hsrt] at HT4
                      clear HT3 hsrt
                      go_wp2_with fail
                      clear k0 k1 ca hfz d0 d1 d2 d3 d4 g1 g2
                      generalize (wr.alloc (.cells #[.int .i64 (q : Int), .bool false, .int .i64 so, .int .i64 sm, .slice sO sl2 sc2] 40)).setCell ⟨G, q, none⟩ (.bool true) = W2 at *
                      have C0 := cell_regrown Hb6.out.1
                      have C2 := cell_regrown Hb6.out.2.2.1
                      have C3 := cell_regrown Hb6.out.2.2.2.1
                      have C4 := cell_regrown Hb6.out.2.2.2.2
                      have C5 := cell_regrown Hg2.out
                      have hBW : B ≤ W2.heap.size := by omega
                      refine wp_region_quiet_below (by kernel_rfl) (by kernel_rfl) ?_
                      repeat (go_big_quiet_step ((go_at_call 12; exact q_rneeds5 hBW Ho Hrv6 Hes6)))
                      refine wpQuiet_nil ?_
                      intro w5 hw5
                      obtain ⟨pp, hpp⟩ := hw5
                      have hb5 : Below W2.heap.size W2 w5 := by rw [hpp]; exact below_regrown W2 pp.d pp.os
                      have Hb7 := hide (Hbw6.out.trans (hb5.mono (by have := Hbw6.out.size; omega)))
                      have Hrw7 := hide (Hrw6.out.of_block (hb5.block _ (by omega)))
                      have Hon7 : Hid (Onl G V w5) := hide (Hon6.out.trans ⟨hb5.os, hb5.tape, hb5.output, hb5.size, fun i hi _ => hb5.block i hi⟩)
                      clear hpp hb5 C0 C2 C3 C4 C5 Hrw6 Hon6 Hbw6
                      generalize needE lv te v.srt true true false = r at *
                      by_cases hr : r = 0
                      · have hrb : (r != 0) = false := by simp [hr]
                        have HT5 : Hid (setGo lv false ((q : Int) :: seen) (c.sets.drop (k + 1)) = setGo lv false [] c.sets) := hide (by have h := HT4.out; rw [if_pos hr, Hc.out] at h; exact h)
                        clear hr HT4
                        go_wp2_with fail
                        go_roundw
                        case rel => exact ⟨k + 1, (q : Int) :: seen, by omega, by go_num, HT5, Hrw7.out, Hon7.out⟩
                        case measure => simp [intOf]; omega
                      · have hrb : (r != 0) = true := by simp [hr]
                        have Hf : Hid (cmdE lv c false = r) := hide (by have h := HT4.out; rw [if_neg hr] at h; exact h.symm)
                        clear hr HT4
                        go_wp2_with fail
                        go_ret
                        exact ⟨ret_int Hf.out.symm, Hb7.out⟩
                    · have HT4 : Hid ((if zeroE te = true then setGo lv false ((q : Int) :: seen) (c.sets.drop (k + 1)) else 1) = cmdE lv c false) := hide (by have h := HT3.out; simpa using h)
                      clear HT3 hsrt
                      have k2 := Hb6.out.2.2.1
                      have k3 := Hb6.out.2.2.2.1
                      have k4 := Hb6.out.2.2.2.2
                      go_wp2_with fail
                      clear k0 k1 k2 k3 k4 ca hfz d0 d1 d2 d3 d4 g1 g2
                      generalize (wr.alloc (.cells #[.int .i64 (q : Int), .bool true, .int .i64 so, .int .i64 sm, .slice sO sl2 sc2] 40)).setCell ⟨G, q, none⟩ (.bool true) = W2 at *
                      refine (zero_any B ⟨so, sm, sO, sl2, sc2⟩ te W2 Hes6.out).mono ?_
                      rintro e w5 ⟨rfl, hb5⟩
                      have Hb7 := hide (Hbw6.out.trans (hb5.mono (by have := Hbw6.out.size; omega)))
                      have Hrw7 := hide (Hrw6.out.of_block (hb5.block _ (by omega)))
                      have Hon7 : Hid (Onl G V w5) := hide (Hon6.out.trans ⟨hb5.os, hb5.tape, hb5.output, hb5.size, fun i hi _ => hb5.block i hi⟩)
                      clear hb5 Hrw6 Hon6 Hbw6
                      generalize zeroE te = r at *
                      cases r
                      · have Hf : Hid (cmdE lv c false = 1) := hide (by have h := HT4.out; rw [if_neg (by simp)] at h; exact h.symm)
                        go_wp2_with fail
                        go_ret
                        exact ⟨ret_int Hf.out.symm, Hb7.out⟩
                      · have HT5 : Hid (setGo lv false ((q : Int) :: seen) (c.sets.drop (k + 1)) = setGo lv false [] c.sets) := hide (by have h := HT4.out; rw [if_pos rfl, Hc.out] at h; exact h)
                        clear HT4
                        go_wp2_with fail
                        go_roundw
                        case rel =>
                          refine ⟨_, _, _, _, _, _, _, _, _, _, _, _, _, _, _, _, _, _, _, _, _, _, _, _, _, _, _, _, _, _, _, _, _, _, _, _, _, _, _, _, _, _, _, _, _, _, _, _, _, _, _, _, _, _, _, _, _, _, ?_, rfl⟩
                          exact ⟨k + 1, (q : Int) :: seen, by omega, by go_num, HT5, Hrw7.out, Hon7.out⟩
                        case measure => simp [intOf]; omega
                · rw [hve] at g1 hen
                  have Hf : Hid (cmdE lv c false = 3) := hide (by rw [← HT2.out, setGo, if_pos (.inr (.inr (.inl (by rw [hen]; simp))))])
                  go_wp2_with fail
                  go_ret
                  exact ⟨ret_int Hf.out.symm, Hbw4.out⟩
                · rw [hve] at g1 hen
                  have Hf : Hid (cmdE lv c true = 3) := hide (by rw [← HT2.out, setGo, if_pos (.inr (.inr (.inl (by rw [hen]; simp))))])
                  go_wp2_with fail
                  go_ret
                  exact ⟨ret_int Hf.out.symm, Hbw4.out⟩
                · rw [hve] at g1 hen
                  have henv := hen
                  by_cases hsn : (q : Int) ∈ seen
                  · have ca : (wr.alloc (.cells #[.int .i64 (q : Int), .bool p, .int .i64 so, .int .i64 sm, .slice sO sl2 sc2] 40)).cell? ⟨G, q, none⟩ = some (.bool true) := (Hrw4.out.cell (i := q) (by omega)).trans (by simp [seenV, hsn])
                    have Hf : Hid (cmdE lv c true = 3) := hide (by rw [← HT2.out, setGo, if_pos (.inr (.inr (.inr hsn)))])
                    go_wp2_with fail
                    go_ret
                    exact ⟨ret_int Hf.out.symm, Hbw4.out⟩
                  · have ca : (wr.alloc (.cells #[.int .i64 (q : Int), .bool p, .int .i64 so, .int .i64 sm, .slice sO sl2 sc2] 40)).cell? ⟨G, q, none⟩ = some (.bool false) := (Hrw4.out.cell (i := q) (by omega)).trans (by simp [seenV, hsn])
                    have hfz := Hrw4.out.frozen q
                    have hno : ¬ ((q : Int) < 0 ∨ (lv.length : Int) ≤ (q : Int) ∨ envAt lv (q : Int) ≠ true ∨ (q : Int) ∈ seen) := by
                      rintro (h | h | h | h)
                      · omega
                      · rw [Hnl.out] at h; omega
                      · exact h henv
                      · exact hsn h
                    have HT3 : Hid ((if p = true then (if zeroE te = true then setGo lv true ((q : Int) :: seen) (c.sets.drop (k + 1)) else 1) else if needE lv te (srtAt lv (q : Int)) true false false = 0 then setGo lv true ((q : Int) :: seen) (c.sets.drop (k + 1)) else needE lv te (srtAt lv (q : Int)) true false false) = cmdE lv c true) := hide (by
                      have h := HT2.out
                      rw [setGo, if_neg hno] at h
                      exact h)
                    clear HT2 hno hsn
                    have hne : wr.heap.size ≠ G := by omega
                    have farB : ∀ q2 : Addr, q2.block ≠ G → ((wr.alloc (.cells #[.int .i64 (q : Int), .bool p, .int .i64 so, .int .i64 sm, .slice sO sl2 sc2] 40)).setCell ⟨G, q, none⟩ (.bool true)).cell? q2 = (wr.alloc (.cells #[.int .i64 (q : Int), .bool p, .int .i64 so, .int .i64 sm, .slice sO sl2 sc2] 40)).cell? q2 := fun q2 h => World.cell?_setCell_far _ _ _ _ (fun e => h e.symm)
                    have Hb6 := hide (Hb5.out.far (w' := (wr.alloc (.cells #[.int .i64 (q : Int), .bool p, .int .i64 so, .int .i64 sm, .slice sO sl2 sc2] 40)).setCell ⟨G, q, none⟩ (.bool true)) (fun q2 hq2 => farB q2 (by rw [hq2]; exact hne)))
                    have Hes6 := hide (Hes.out.keep (w' := (wr.alloc (.cells #[.int .i64 (q : Int), .bool p, .int .i64 so, .int .i64 sm, .slice sO sl2 sc2] 40)).setCell ⟨G, q, none⟩ (.bool true)) (fun p2 hp2 => farB p2 (by omega)))
                    have Hrv6 := hide (Hrv4.out.keep (w' := (wr.alloc (.cells #[.int .i64 (q : Int), .bool p, .int .i64 so, .int .i64 sm, .slice sO sl2 sc2] 40)).setCell ⟨G, q, none⟩ (.bool true)) (fun p2 hp2 => farB p2 (by omega)))
                    have Hrw6 := hide (seen_set (k := q) Hrw4.out)
                    have Hon6 := hide (Hon4.out.set q (.bool true))
                    have Hbw6 := hide (Hbw4.out.setCell (p := ⟨G, q, none⟩) (by show w.heap.size ≤ G; omega) (.bool true))
                    have g2s := (farB ⟨vb, vo + q * 5 + 2, none⟩ (by show vb ≠ G; omega)).trans g2
                    have hz6 : wr.heap.size + 1 ≤ ((wr.alloc (.cells #[.int .i64 (q : Int), .bool p, .int .i64 so, .int .i64 sm, .slice sO sl2 sc2] 40)).setCell ⟨G, q, none⟩ (.bool true)).heap.size := by simp [World.setCell]
                    have Hg2 := hide g2s
                    have k0 := Hb6.out.1
                    have k1 := Hb6.out.2.1
                    clear farB g2s
                    cases p
                    · have HT4 : Hid ((if needE lv te (srtAt lv (q : Int)) true false false = 0 then setGo lv true ((q : Int) :: seen) (c.sets.drop (k + 1)) else needE lv te (srtAt lv (q : Int)) true false false) = cmdE lv c true) := hide (by have h := HT3.out; simpa using h)
                      rw [hsrt] at HT4
                      clear HT3 hsrt
                      go_wp2_with fail
                      clear k0 k1 ca hfz d0 d1 d2 d3 d4 g1 g2
                      generalize (wr.alloc (.cells #[.int .i64 (q : Int), .bool false, .int .i64 so, .int .i64 sm, .slice sO sl2 sc2] 40)).setCell ⟨G, q, none⟩ (.bool true) = W2 at *
                      have C0 := cell_regrown Hb6.out.1
                      have C2 := cell_regrown Hb6.out.2.2.1
                      have C3 := cell_regrown Hb6.out.2.2.2.1
                      have C4 := cell_regrown Hb6.out.2.2.2.2
                      have C5 := cell_regrown Hg2.out
                      have hBW : B ≤ W2.heap.size := by omega
                      refine wp_region_quiet_below (by kernel_rfl) (by kernel_rfl) ?_
                      repeat (go_big_quiet_step ((go_at_call 12; exact q_rneeds5 hBW Ho Hrv6 Hes6)))
                      refine wpQuiet_nil ?_
                      intro w5 hw5
                      obtain ⟨pp, hpp⟩ := hw5
                      have hb5 : Below W2.heap.size W2 w5 := by rw [hpp]; exact below_regrown W2 pp.d pp.os
                      have Hb7 := hide (Hbw6.out.trans (hb5.mono (by have := Hbw6.out.size; omega)))
                      have Hrw7 := hide (Hrw6.out.of_block (hb5.block _ (by omega)))
                      have Hon7 : Hid (Onl G V w5) := hide (Hon6.out.trans ⟨hb5.os, hb5.tape, hb5.output, hb5.size, fun i hi _ => hb5.block i hi⟩)
                      clear hpp hb5 C0 C2 C3 C4 C5 Hrw6 Hon6 Hbw6
                      generalize needE lv te v.srt true false false = r at *
                      by_cases hr : r = 0
                      · have hrb : (r != 0) = false := by simp [hr]
                        have HT5 : Hid (setGo lv true ((q : Int) :: seen) (c.sets.drop (k + 1)) = setGo lv true [] c.sets) := hide (by have h := HT4.out; rw [if_pos hr, Hc.out] at h; exact h)
                        clear hr HT4
                        go_wp2_with fail
                        go_roundw
                        case rel => exact ⟨k + 1, (q : Int) :: seen, by omega, by go_num, HT5, Hrw7.out, Hon7.out⟩
                        case measure => simp [intOf]; omega
                      · have hrb : (r != 0) = true := by simp [hr]
                        have Hf : Hid (cmdE lv c true = r) := hide (by have h := HT4.out; rw [if_neg hr] at h; exact h.symm)
                        clear hr HT4
                        go_wp2_with fail
                        go_ret
                        exact ⟨ret_int Hf.out.symm, Hb7.out⟩
                    · have HT4 : Hid ((if zeroE te = true then setGo lv true ((q : Int) :: seen) (c.sets.drop (k + 1)) else 1) = cmdE lv c true) := hide (by have h := HT3.out; simpa using h)
                      clear HT3 hsrt
                      have k2 := Hb6.out.2.2.1
                      have k3 := Hb6.out.2.2.2.1
                      have k4 := Hb6.out.2.2.2.2
                      go_wp2_with fail
                      clear k0 k1 k2 k3 k4 ca hfz d0 d1 d2 d3 d4 g1 g2
                      generalize (wr.alloc (.cells #[.int .i64 (q : Int), .bool true, .int .i64 so, .int .i64 sm, .slice sO sl2 sc2] 40)).setCell ⟨G, q, none⟩ (.bool true) = W2 at *
                      refine (zero_any B ⟨so, sm, sO, sl2, sc2⟩ te W2 Hes6.out).mono ?_
                      rintro e w5 ⟨rfl, hb5⟩
                      have Hb7 := hide (Hbw6.out.trans (hb5.mono (by have := Hbw6.out.size; omega)))
                      have Hrw7 := hide (Hrw6.out.of_block (hb5.block _ (by omega)))
                      have Hon7 : Hid (Onl G V w5) := hide (Hon6.out.trans ⟨hb5.os, hb5.tape, hb5.output, hb5.size, fun i hi _ => hb5.block i hi⟩)
                      clear hb5 Hrw6 Hon6 Hbw6
                      generalize zeroE te = r at *
                      cases r
                      · have Hf : Hid (cmdE lv c true = 1) := hide (by have h := HT4.out; rw [if_neg (by simp)] at h; exact h.symm)
                        go_wp2_with fail
                        go_ret
                        exact ⟨ret_int Hf.out.symm, Hb7.out⟩
                      · have HT5 : Hid (setGo lv true ((q : Int) :: seen) (c.sets.drop (k + 1)) = setGo lv true [] c.sets) := hide (by have h := HT4.out; rw [if_pos rfl, Hc.out] at h; exact h)
                        clear HT4
                        go_wp2_with fail
                        go_roundw
                        case rel =>
                          refine ⟨_, _, _, _, _, _, _, _, _, _, _, _, _, _, _, _, _, _, _, _, _, _, _, _, _, _, _, _, _, _, _, _, _, _, _, _, _, _, _, _, _, _, _, _, _, _, _, _, _, _, _, _, _, _, _, _, _, _, ?_, rfl⟩
                          exact ⟨k + 1, (q : Int) :: seen, by omega, by go_num, HT5, Hrw7.out, Hon7.out⟩
                        case measure => simp [intOf]; omega
          · have hlt' : ¬ ((k : Int) < (sn : Int)) := by omega
            have Hf : Hid (cmdE lv c env = 0) := hide (by
              rw [Hc.out, ← HT.out, List.drop_of_length_le (by rw [Hsl.out]; omega), setGo])
            go_wp2_with fail
            go_ret
            exact ⟨ret_int Hf.out.symm, Hbw.out⟩
    · have hgb : (needE lv c.guard 1 true (!env) false != 0) = true := by simp [hg]
      rw [if_neg hg] at Hc
      clear hg
      go_wp2_with fail
      go_ret
      exact ⟨ret_int Hc.out.symm, Hb2.out⟩
  · have hmb : (Dom.mayL lv != 0) = true := by simp [hm]
    rw [if_neg hm] at Hc
    clear hm
    go_wp2_with fail
    go_ret
    exact ⟨ret_int Hc.out.symm, Hb1.out⟩
end Go.Proofs.Ytddbplgcglgloaa
