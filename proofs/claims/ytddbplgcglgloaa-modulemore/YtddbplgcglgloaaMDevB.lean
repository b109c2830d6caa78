/- The walk of the program's MayCommand. -/
import Derived.Test.YtddbplgcglgloaaMDevA
namespace Go.Proofs.Ytddbplgcglgloaa
open Go.RowKit Ex
open Go.Sort (grow)
set_option linter.unusedSimpArgs false
set_option linter.unusedVariables false

theorem setGo_step (l : List Dom.V) (env : Bool) (seen : List Int) (s : ST) (r : List ST) : setGo l env seen (s :: r) = if ownB l s.var env = true ∧ ¬ s.var ∈ seen then (if giveE l s env = 0 then setGo l env (s.var :: seen) r else giveE l s env) else 3 := by
  have hown : ownB l s.var env = true ↔ ¬ s.var < 0 ∧ ¬ (l.length : Int) ≤ s.var ∧ envAt l s.var = env := by
    unfold ownB
    simp
    constructor
    · rintro ⟨⟨h1, h2⟩, h3⟩; exact ⟨h1, h2, h3⟩
    · rintro ⟨h1, h2, h3⟩; exact ⟨⟨h1, h2⟩, h3⟩
  by_cases h : ownB l s.var env = true ∧ ¬ s.var ∈ seen
  · rw [if_pos h, setGo, if_neg (by
      obtain ⟨h1, h2, h3⟩ := hown.1 h.1
      rintro (h4 | h4 | h4 | h4)
      · exact h1 h4
      · exact h2 h4
      · exact h4 h3
      · exact h.2 h4)]
    unfold giveE
    cases s.any
    · simp
    · cases zeroE s.e <;> simp
  · rw [if_neg h, setGo, if_pos (by
      by_cases h1 : s.var < 0
      · exact .inl h1
      by_cases h2 : (l.length : Int) ≤ s.var
      · exact .inr (.inl h2)
      by_cases h3 : envAt l s.var = env
      · by_cases h4 : s.var ∈ seen
        · exact .inr (.inr (.inr h4))
        · exact absurd ⟨hown.2 ⟨h1, h2, h3⟩, h4⟩ h
      · exact .inr (.inr (.inl h3)))]
theorem own_true {l : List Dom.V} {z : Int} {env : Bool} (h : ownB l z env = true) : ∃ q : Nat, z = (q : Int) ∧ q < l.length := by
  unfold ownB at h
  simp at h
  exact ⟨z.toNat, by omega, by omega⟩
theorem done_new (w : World) (n : Nat) : (w.alloc (.cells (Array.replicate n (.bool false)) 4)).rowIs w.heap.size 4 n (seenV []) := by
  have := World.rowIs_alloc w (Array.replicate n (.bool false)) 4 (seenV []) (fun i hi => by
    simp at hi
    simp [seenV, hi])
  simpa using this
theorem done_set {w : World} {g n k : Nat} {seen : List Int} (h : w.rowIs g 4 n (seenV seen)) : (w.setCell ⟨g, k, none⟩ (.bool true)).rowIs g 4 n (seenV ((k : Int) :: seen)) :=
  (h.set k (.bool true)).congr (fun i hi => by
    by_cases e : i = k
    · rw [if_pos e]; simp [seenV, e]
    · rw [if_neg e]
      have : ¬ (i : Int) = (k : Int) := by omega
      simp [seenV, this])

theorem make_done (nv : Nat) (h6 : nv ≤ 6) : ∀ w : World, (Instr.makeSlice 58 (.int .i64 (nv : Int)) (.int .i64 (nv : Int))).run Try.prog w = .ok (.slice (some ⟨w.heap.size, 0, none⟩) nv nv) (w.alloc (.cells (Array.replicate nv (.bool false)) 4)) := by
  have h : nv = 0 ∨ nv = 1 ∨ nv = 2 ∨ nv = 3 ∨ nv = 4 ∨ nv = 5 ∨ nv = 6 := by omega
  rcases h with rfl | rfl | rfl | rfl | rfl | rfl | rfl <;> (intro w; kernel_rfl)
set_option maxRecDepth 100000 in
set_option maxHeartbeats 8000000 in
theorem dcmd_any (B : Nat) (Av : Option Addr) (nv cv : Nat) (lv : List Dom.V) (x : C2) (c : CT) (env : Bool) (w : World) (ho : OkVars ⟨Av, nv, cv⟩ lv) (hB : B ≤ w.heap.size) (hrc : RC w B x c) (hrv : Dom.RV w B Av nv lv) :
    Calls Try.prog 10 #[.slice Av nv cv, .agg x.cells, .bool env] w fun e w' => e = .returned (.int .i64 (cmdE lv c env)) ∧ Below w.heap.size w w' := by
  obtain ⟨⟨go, gn, gA, gl, gc⟩, ⟨sA, sn, sc⟩⟩ := x
  obtain ⟨hex, hrs⟩ := hrc
  have hsl := hrs.1
  have hsc := hrs.2.1
  have hsm := hrs.2.2.1
  simp only at hsl hsc hsm
  unfold maxLen at hsm
  have hnv := ho.1
  simp only at hnv
  unfold maxLen at hnv
  have Hnl := hide hrv.1
  have hbx := (Below.refl w.heap.size w).alloc (Nat.le_refl _) (.cells #[.int .i64 go, .int .i64 gn, .slice gA gl gc, .slice sA sn sc] 31)
  obtain ⟨bx, bs⟩ := box4 w go gn gA gl gc sA sn sc
  have hz0 : (w.alloc (.cells #[.int .i64 go, .int .i64 gn, .slice gA gl gc, .slice sA sn sc] 31)).heap.size = w.heap.size + 1 := by simp
  have Hex := hide (hex.below (hbx.mono hB))
  have Hrs := hide (hrs.keep (w' := w.alloc (.cells #[.int .i64 go, .int .i64 gn, .slice gA gl gc, .slice sA sn sc] 31)) (fun b o y h1 hy => SetAt.keep h1 hy (fun p hp => (hbx.mono hB).cell hp)))
  have Hrv := hide (hrv.below (hbx.mono hB))
  have Hbx := hide bx; have Hbs := hide bs; have Hb0 := hide hbx
  have Ho := hide ho
  have Hsl := hide hsl
  have Hc : Hid (cmdE lv c env = if Dom.mayL lv = 0 then (if needE lv c.guard 1 true (!env) false = 0 then (if 6 < c.sets.length then 7 else setGo lv env [] c.sets) else needE lv c.guard 1 true (!env) false) else Dom.mayL lv) := hide rfl
  clear hex hrs hrv hbx bx bs ho hsl
  simp only [C2.cells, SL.v]
  go_enter Try.func10, Try.ntmps10
  go_wp2_with fail
  generalize w.alloc (.cells #[.int .i64 go, .int .i64 gn, .slice gA gl gc, .slice sA sn sc] 31) = W at *
  have hzW : w.heap.size + 1 ≤ W.heap.size := by omega
  clear hz0
  refine (Dom.may_any Av nv cv B lv W Ho.out.1 (by omega) Hrv.out Ho.out.2.2.2).mono ?_
  rintro e w1 ⟨rfl, hb1⟩
  have hz1 := hb1.size
  have Hb1 := hide (Hb0.out.trans (hb1.mono (by omega)))
  have Hex1 := hide (Hex.out.below (hb1.mono (by omega)))
  have Hrs1 := hide (Hrs.out.keep (w' := w1) (fun b o y h1 hy => SetAt.keep h1 hy (fun p hp => (hb1.mono (by omega)).cell hp)))
  have Hrv1 := hide (Hrv.out.below (hb1.mono (by omega)))
  have Hbx1 := hide (Hbx.out.below hb1 (by omega))
  have Hbs1 := hide ((hb1.cell (p := ⟨w.heap.size, 3, none⟩) (by show w.heap.size < W.heap.size; omega)).trans Hbs.out)
  clear hb1 Hb0 Hex Hrs Hrv Hbx Hbs
  by_cases hm : Dom.mayL lv = 0
  · have hmb : (Dom.mayL lv != 0) = false := by simp [hm]
    rw [if_pos hm] at Hc
    have hlen6 : nv ≤ 6 := by
      have := Dom.totL_len (Dom.mayL_zero hm).2
      rw [Hnl.out] at this; exact this
    clear hm
    obtain ⟨f0, f1, f2⟩ := Hbx1.out
    obtain ⟨dg, hdg⟩ := Hex1.out
    have Hdg := hide hdg
    clear hdg
    go_wp2_with fail
    clear f0 f1 f2
    refine (duse_any B Av nv cv lv dg go gn gA gl gc c.guard 1 env w1 Ho.out (by omega) Hdg.out Hrv1.out).mono ?_
    rintro e w2 ⟨rfl, hb2⟩
    have hz2 := hb2.size
    have Hb2 := hide (Hb1.out.trans (hb2.mono (by omega)))
    have Hrs2 := hide (Hrs1.out.keep (w' := w2) (fun b o y h1 hy => SetAt.keep h1 hy (fun p hp => (hb2.mono (by omega)).cell hp)))
    have Hrv2 := hide (Hrv1.out.below (hb2.mono (by omega)))
    have Hbs2 := hide ((hb2.cell (p := ⟨w.heap.size, 3, none⟩) (by show w.heap.size < w1.heap.size; omega)).trans Hbs1.out)
    clear hb2 Hb1 Hex1 Hrs1 Hrv1 Hbx1 Hbs1 Hdg
    by_cases hg : needE lv c.guard 1 true (!env) false = 0
    · have hgb : (needE lv c.guard 1 true (!env) false != 0) = false := by simp [hg]
      rw [if_pos hg] at Hc
      clear hg
      have f3 := Hbs2.out
      by_cases hs6 : 6 < sn
      · have hsb : decide ((6 : Int) < (sn : Int)) = true := by simp; omega
        have hsb2 : decide (6 < sn) = true := by simp [hs6]
        have Hf : Hid (cmdE lv c env = 7) := hide (by rw [Hc.out, if_pos (by rw [Hsl.out]; exact hs6)])
        clear hs6
        go_wp2_with fail
        go_ret
        exact ⟨ret_int Hf.out.symm, Hb2.out⟩
      · have hsb : decide ((6 : Int) < (sn : Int)) = false := by simp; omega
        have hsb2 : decide (6 < sn) = false := by simp [hs6]
        rw [if_neg (by rw [Hsl.out]; exact hs6)] at Hc
        have hmk : ∀ w : World, (Instr.makeSlice 58 (.int .i64 (nv : Int)) (.int .i64 (nv : Int))).run Try.prog w = .ok (.slice (some ⟨w.heap.size, 0, none⟩) nv nv) (w.alloc (.cells (Array.replicate nv (.bool false)) 4)) := by
          exact fun w => make_done nv hlen6 w
        have hbA := (Below.refl w2.heap.size w2).alloc (Nat.le_refl _) (.cells (Array.replicate nv (.bool false)) 4)
        have Hrow := hide (done_new w2 nv)
        have hzA : w2.heap.size + 1 ≤ (w2.alloc (.cells (Array.replicate nv (.bool false)) 4)).heap.size := by simp
        have Hb3 := hide (Hb2.out.trans (hbA.mono (by omega)))
        have Hrs3 := hide (Hrs2.out.keep (w' := w2.alloc (.cells (Array.replicate nv (.bool false)) 4)) (fun b o y h1 hy => SetAt.keep h1 hy (fun p hp => (hbA.mono (by omega)).cell hp)))
        have Hrv3 := hide (Hrv2.out.below (hbA.mono (by omega)))
        have f4 := (hbA.cell (p := ⟨w.heap.size, 3, none⟩) (by show w.heap.size < w2.heap.size; omega)).trans f3
        clear hbA Hb2 Hrs2 Hrv2 Hbs2
        go_wp2_with fail
        clear f3 f4 hmk
        generalize w2.alloc (.cells (Array.replicate nv (.bool false)) 4) = V at *
        generalize hG : w2.heap.size = G at *
        clear hG
        go_loopw [36] (fun i wr => ∃ (k : Nat) (seen : List Int), k ≤ sn ∧ i = .int .i64 k ∧ Hid (setGo lv env seen (c.sets.drop k) = setGo lv env [] c.sets) ∧ wr.rowIs G 4 nv (seenV seen) ∧ Onl G V wr) (fun i _ => sn - (intOf i).toNat)
        case atStart => exact ⟨0, [], by omega, rfl, hide rfl, Hrow.out, Onl.refl _ _⟩
        case round =>
          obtain ⟨k, seen, hk, rfl, HT, hrw, hon⟩ := hrel
          have Hrw := hide hrw
          have Hon := hide hon
          have hzr := hon.size
          have Hbw := hide (Hb3.out.trans (hon.below (B := w.heap.size) (by omega) (by have := Hb3.out.size; omega)))
          clear hrw hon
          by_cases hlt : k < sn
          · have hlt' : ((k : Int) < (sn : Int)) := by omega
            have hbV := Hon.out.below (B := B) (by omega) (by omega)
            obtain ⟨b, off, s, eA, hbB, hku, ⟨c0, c1, ⟨so, sm, sO, sl2, sc2⟩, ⟨c2, c3, c4⟩, hes⟩⟩ := (Hrs3.out.keep (w' := wr) (fun b o y h1 hy => SetAt.keep h1 hy (fun p hp => hbV.cell hp))).at_ (k := k) hlt
            simp only at eA c2 c3 c4
            subst eA
            have Hdr := hide (set_drop hku)
            obtain ⟨z, p, te⟩ := s
            simp only at c0 c1 hes
            have HT2 : Hid ((if ownB lv z env = true ∧ ¬ z ∈ seen then (if giveE lv ⟨z, p, te⟩ env = 0 then setGo lv env (z :: seen) (c.sets.drop (k + 1)) else giveE lv ⟨z, p, te⟩ env) else 3) = setGo lv env [] c.sets) := hide (by rw [← setGo_step lv env seen ⟨z, p, te⟩, ← Hdr.out, HT.out])
            clear hku HT
            have hbA := (Below.refl wr.heap.size wr).alloc (Nat.le_refl _) (.cells #[.int .i64 z, .bool p, .int .i64 so, .int .i64 sm, .slice sO sl2 sc2] 40)
            have Hes := hide (hes.below (hbA.mono (by omega)))
            have Hrv4 := hide ((Hrv3.out.below hbV).below (hbA.mono (by omega)))
            have Hrw4 := hide (Hrw.out.alloc (.cells #[.int .i64 z, .bool p, .int .i64 so, .int .i64 sm, .slice sO sl2 sc2] 40))
            have Hon4 := hide (Hon.out.alloc (.cells #[.int .i64 z, .bool p, .int .i64 so, .int .i64 sm, .slice sO sl2 sc2] 40))
            have Hb5 := hide (box5_new wr z p so sm sO sl2 sc2)
            have Hbw4 := hide (Hbw.out.trans (hbA.mono (by have := Hbw.out.size; omega)))
            have hz4 : wr.heap.size + 1 ≤ (wr.alloc (.cells #[.int .i64 z, .bool p, .int .i64 so, .int .i64 sm, .slice sO sl2 sc2] 40)).heap.size := by simp
            obtain ⟨d0, d1, d2, d3, d4⟩ := Hb5.out
            clear hes hbA hbV
            go_wp2_with fail
            clear c0 c1 c2 c3 c4 d0 d1 d2 d3 d4
            generalize wr.alloc (.cells #[.int .i64 z, .bool p, .int .i64 so, .int .i64 sm, .slice sO sl2 sc2] 40) = W4 at *
            refine (own_any B Av nv cv lv z env W4 Ho.out Hrv4.out).mono ?_
            rintro e w5 ⟨rfl, hb5⟩
            have hz5 := hb5.size
            have Hbw5 := hide (Hbw4.out.trans (hb5.mono (by have := Hbw4.out.size; omega)))
            have Hrw5 := hide (Hrw4.out.of_block (hb5.block _ (by omega)))
            have Hon5 : Hid (Onl G V w5) := hide (Hon4.out.trans ⟨hb5.os, hb5.tape, hb5.output, hb5.size, fun i hi _ => hb5.block i hi⟩)
            have Hes5 := hide (Hes.out.below (hb5.mono (by omega)))
            have Hrv5 := hide (Hrv4.out.below (hb5.mono (by omega)))
            have Hb55 := hide (Hb5.out.far (w' := w5) (fun q2 hq2 => hb5.cell (by rw [hq2]; omega)))
            clear hb5 Hbw4 Hrw4 Hon4 Hes Hrv4 Hb5
            have HO : Hid (ownB lv z env = true → ∃ q : Nat, z = (q : Int) ∧ q < nv) := hide (fun h => by
              obtain ⟨q, h1, h2⟩ := own_true h
              exact ⟨q, h1, by rw [← Hnl.out]; exact h2⟩)
            generalize ownB lv z env = ob at *
            cases ob
            · have Hf : Hid (cmdE lv c env = 3) := hide (by rw [Hc.out, ← HT2.out, if_neg (by simp)])
              obtain ⟨d0, d1, d2, d3, d4⟩ := Hb55.out
              go_wp2_with fail
              go_ret
              exact ⟨ret_int Hf.out.symm, Hbw5.out⟩
            · obtain ⟨q, rfl, hq⟩ := HO.out rfl
              clear HO
              have hqn : (q : Int) < (nv : Int) := by omega
              obtain ⟨d0, d1, d2, d3, d4⟩ := Hb55.out
              by_cases hsn : (q : Int) ∈ seen
              · have ca : w5.cell? ⟨G, q, none⟩ = some (.bool true) := (Hrw5.out.cell (i := q) (by omega)).trans (by simp [seenV, hsn])
                have Hf : Hid (cmdE lv c env = 3) := hide (by rw [Hc.out, ← HT2.out, if_neg (fun h => h.2 hsn)])
                go_wp2_with fail
                go_ret
                exact ⟨ret_int Hf.out.symm, Hbw5.out⟩
              · have ca : w5.cell? ⟨G, q, none⟩ = some (.bool false) := (Hrw5.out.cell (i := q) (by omega)).trans (by simp [seenV, hsn])
                have HT3 : Hid ((if giveE lv ⟨q, p, te⟩ env = 0 then setGo lv env ((q : Int) :: seen) (c.sets.drop (k + 1)) else giveE lv ⟨q, p, te⟩ env) = setGo lv env [] c.sets) := hide (by
                  have h := HT2.out
                  rw [if_pos ⟨rfl, hsn⟩] at h
                  exact h)
                clear HT2 hsn
                go_wp2_with fail
                clear ca d0 d1 d2 d3 d4
                refine (give_any B Av nv cv lv q p ⟨so, sm, sO, sl2, sc2⟩ te env w5 Ho.out (by omega) Hes5.out Hrv5.out hq).mono ?_
                rintro e w6 ⟨rfl, hb6⟩
                have hz6 := hb6.size
                have Hbw6 := hide (Hbw5.out.trans (hb6.mono (by have := Hbw5.out.size; omega)))
                have Hrw6 := hide (Hrw5.out.of_block (hb6.block _ (by omega)))
                have Hon6 : Hid (Onl G V w6) := hide (Hon5.out.trans ⟨hb6.os, hb6.tape, hb6.output, hb6.size, fun i hi _ => hb6.block i hi⟩)
                have d0 := (hb6.cell (p := ⟨wr.heap.size, 0, none⟩) (by show wr.heap.size < w5.heap.size; omega)).trans Hb55.out.1
                clear hb6 Hbw5 Hrw5 Hon5 Hb55 Hes5 Hrv5
                generalize giveE lv ⟨q, p, te⟩ env = r at *
                by_cases hr : r = 0
                · have hrb : (r != 0) = false := by simp [hr]
                  have HT5 : Hid (setGo lv env ((q : Int) :: seen) (c.sets.drop (k + 1)) = setGo lv env [] c.sets) := hide (by have h := HT3.out; rw [if_pos hr] at h; exact h)
                  have hfz := Hrw6.out.frozen q
                  have ca : w6.cell? ⟨G, q, none⟩ = some (seenV seen q) := Hrw6.out.cell (i := q) (by omega)
                  have Hrw7 := hide (done_set (k := q) Hrw6.out)
                  have Hon7 := hide (Hon6.out.set q (.bool true))
                  clear hr HT3
                  go_wp2_with fail
                  go_roundw
                  case rel => exact ⟨k + 1, (q : Int) :: seen, by omega, by go_num, HT5, Hrw7.out, Hon7.out⟩
                  case measure => simp [intOf]; omega
                · have hrb : (r != 0) = true := by simp [hr]
                  have Hf : Hid (cmdE lv c env = r) := hide (by have h := HT3.out; rw [if_neg hr] at h; rw [Hc.out, ← h])
                  clear hr HT3
                  go_wp2_with fail
                  go_ret
                  exact ⟨ret_int Hf.out.symm, Hbw6.out⟩
          · have hlt' : ¬ ((k : Int) < (sn : Int)) := by omega
            have Hf : Hid (cmdE lv c env = 0) := hide (by
              rw [Hc.out, ← HT.out, List.drop_of_length_le (by rw [Hsl.out]; omega), setGo])
            go_wp2_with fail
            go_ret
            exact ⟨ret_int Hf.out.symm, Hbw.out⟩
    · have hgb : (needE lv c.guard 1 true (!env) false != 0) = true := by simp [hg]
      rw [if_neg hg] at Hc
      clear hg
      go_wp2_with fail
      go_ret
      exact ⟨ret_int Hc.out.symm, Hb2.out⟩
  · have hmb : (Dom.mayL lv != 0) = true := by simp [hm]
    rw [if_neg hm] at Hc
    clear hm
    go_wp2_with fail
    go_ret
    exact ⟨ret_int Hc.out.symm, Hb1.out⟩
end Go.Proofs.Ytddbplgcglgloaa
