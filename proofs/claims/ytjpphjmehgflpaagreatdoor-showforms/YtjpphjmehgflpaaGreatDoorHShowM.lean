/- The program's show: the text of a module. -/
import Derived.Test.YtjpphjmehgflpaaGreatDoorHShow
namespace Go.Proofs.YtjpphjmehgflpaaGreatDoor
open Go.RowKit Ex
set_option linter.unusedSimpArgs false
set_option linter.unusedVariables false

set_option maxHeartbeats 4000000 in
theorem showM_any (B : Nat) (x : M8) (m : MT) (w : World) (hB : B ≤ w.heap.size) (hrm : RM w B x m) (hT : TB w.heap.size w) :
    Calls Tryz.prog 10 #[.agg x.cells] w fun e w' => e = .returned (.string (bytesOf (showM m))) ∧ Below w.heap.size w w' := by
  obtain ⟨⟨vA, vn, vc⟩, ⟨io, im, iA, il, ic⟩, ⟨jo, jm, jA, jl, jc⟩, ⟨eA, en, ec⟩, ⟨sA, sn, sc⟩, ⟨aA, an, ac⟩, ⟨nA, nn, nc⟩, ⟨pA, pn, pc⟩⟩ := x
  have hbx := (Below.refl w.heap.size w).alloc (Nat.le_refl _) (.cells (M8.cells ⟨⟨vA, vn, vc⟩, ⟨io, im, iA, il, ic⟩, ⟨jo, jm, jA, jl, jc⟩, ⟨eA, en, ec⟩, ⟨sA, sn, sc⟩, ⟨aA, an, ac⟩, ⟨nA, nn, nc⟩, ⟨pA, pn, pc⟩⟩) 28)
  have Hrm := hide (hrm.below (hbx.mono hB))
  have HT := hide (hT.up hbx)
  have Hbx := hide hbx
  have Hblk := hide (heap_alloc_new w (.cells (M8.cells ⟨⟨vA, vn, vc⟩, ⟨io, im, iA, il, ic⟩, ⟨jo, jm, jA, jl, jc⟩, ⟨eA, en, ec⟩, ⟨sA, sn, sc⟩, ⟨aA, an, ac⟩, ⟨nA, nn, nc⟩, ⟨pA, pn, pc⟩⟩) 28))
  have hzz : (w.alloc (.cells (M8.cells ⟨⟨vA, vn, vc⟩, ⟨io, im, iA, il, ic⟩, ⟨jo, jm, jA, jl, jc⟩, ⟨eA, en, ec⟩, ⟨sA, sn, sc⟩, ⟨aA, an, ac⟩, ⟨nA, nn, nc⟩, ⟨pA, pn, pc⟩⟩) 28)).heap.size = w.heap.size + 1 := by simp
  have HD := hide (dmod_any B _ m _ (by omega) Hrm.out)
  clear hrm hT hbx
  simp only [M8.cells, SL.v] at *
  have cells : ∀ {u : World}, u.heap[w.heap.size]? = some (.cells #[.slice vA vn vc, .int .i64 io, .int .i64 im, .slice iA il ic, .int .i64 jo, .int .i64 jm, .slice jA jl jc, .slice eA en ec, .slice sA sn sc, .slice aA an ac, .slice nA nn nc, .slice pA pn pc] 28 (0, 0)) → ∀ (i : Nat) (v : Value), (#[.slice vA vn vc, .int .i64 io, .int .i64 im, .slice iA il ic, .int .i64 jo, .int .i64 jm, .slice jA jl jc, .slice eA en ec, .slice sA sn sc, .slice aA an ac, .slice nA nn nc, .slice pA pn pc] : Array Value)[i]? = some v → u.cell? ⟨w.heap.size, i, none⟩ = some v := fun h i v hv => by rw [Lib.cell_of_heap h]; exact hv
  have q0 := cells Hblk.out 0 _ rfl
  have q1 := cells Hblk.out 1 _ rfl
  have q2 := cells Hblk.out 2 _ rfl
  have q3 := cells Hblk.out 3 _ rfl
  have q4 := cells Hblk.out 4 _ rfl
  have q5 := cells Hblk.out 5 _ rfl
  have q6 := cells Hblk.out 6 _ rfl
  have q7 := cells Hblk.out 7 _ rfl
  have q8 := cells Hblk.out 8 _ rfl
  have q9 := cells Hblk.out 9 _ rfl
  have q10 := cells Hblk.out 10 _ rfl
  have q11 := cells Hblk.out 11 _ rfl
  go_enter Tryz.func10, Tryz.ntmps10
  go_wp2_with fail
  generalize w.alloc (.cells #[.slice vA vn vc, .int .i64 io, .int .i64 im, .slice iA il ic, .int .i64 jo, .int .i64 jm, .slice jA jl jc, .slice eA en ec, .slice sA sn sc, .slice aA an ac, .slice nA nn nc, .slice pA pn pc] 28) = w0 at *
  refine (HD.out).mono ?_
  rintro e w1 ⟨rfl, hb1⟩
  have Hb1 := hide (Hbx.out.trans (hb1.mono (by omega)))
  have Hrm1 := hide (Hrm.out.below (hb1.mono (by omega)))
  have Hblk1 := hide ((hb1.block w.heap.size (by omega)).trans Hblk.out)
  have HT1 := hide (HT.out.up hb1)
  have hz1 := hb1.size
  clear hb1 Hrm HT Hbx HD Hblk q0 q1 q2 q3 q4 q5 q6 q7 q8 q9 q10 q11
  by_cases hs : modE m = 0
  · have hsb : (modE m != 0) = false := by simp [hs]
    have Hsh : Hid (showM m = modT m) := hide (if_pos hs)
    have Hok := hide (mod_ok hs)
    have Hlen := hide (mod_len Hok.out)
    clear hs
    obtain ⟨hov, hrv, hie, his, hen, hsy, has, hes, hpr⟩ := (Hrm1.out).more (B' := w1.heap.size) (by omega)
    obtain ⟨di, hie⟩ := hie
    obtain ⟨dj, his⟩ := his
    simp only at hov hrv hie his hen hsy has hes hpr
    have Hov := hide hov; have Hrv := hide hrv; have Hie := hide hie; have His := hide his; have Hen := hide hen; have Hsy := hide hsy; have Has := hide has; have Hes := hide hes; have Hpr := hide hpr
    clear hov hrv hie his hen hsy has hes hpr Hrm1
    have hvn : vn ≤ maxLen := Hov.out.1
    unfold maxLen at hvn
    have Hpg : Hid (Pg w1.heap.size w1.heap.size ⟨vA, vn, vc⟩ [] (w1.alloc (.cells #[.slice vA vn vc, .pointer none, .slice none 0 0] 55))) := hide (Pg.new (s := ⟨vA, vn, vc⟩) w1 (Nat.le_refl _))
    have Hbp : Hid (Below w1.heap.size w1 (w1.alloc (.cells #[.slice vA vn vc, .pointer none, .slice none 0 0] 55))) := hide ((Below.refl _ _).alloc (Nat.le_refl _) _)
    have q0 := cells Hblk1.out 0 _ rfl
    have q0b := cells ((Hbp.out.block w.heap.size (by omega)).trans Hblk1.out) 0 _ rfl
    unfold modT at Hlen
    simp only [List.length_append] at Hlen
    go_wp2_with fail
    go_loopw [15] (fun i wr => ∃ (k : Nat), k ≤ vn ∧ i = .int .i64 k ∧ Hid (Pg w1.heap.size w1.heap.size ⟨vA, vn, vc⟩ (linesT varT (m.vars.take k)) wr) ∧ Hid (Below w1.heap.size w1 wr)) (fun i _ => vn - (intOf i).toNat)
    case atStart => exact ⟨0, Nat.zero_le _, rfl, hide (by simpa [linesT] using Hpg.out), Hbp⟩
    case round =>
      obtain ⟨k, hk, rfl, Hp, Hk⟩ := hrel
      have hsz := Hk.out.size
      clear q0 q0b
      by_cases hlt2 : k < vn
      · have hlt' : ((k : Int) < (vn : Int)) := by omega
        obtain ⟨g, off, v, hA, hgB, hu, hcv⟩ := Hrv.out.at_ hlt2
        try simp only at hA
        subst hA
        have Hu := hide hu; clear hu
        obtain ⟨c0, c1, c2, c3, c4⟩ := hcv.keep (w' := wr) (fun p hp => Hk.out.cell (by omega))
        clear hcv
        have Hbz : Hid (Below w1.heap.size w1 (wr.alloc (.cells #[.string v.nm, .bool v.env, .int .i64 v.srt, .int .i64 v.lo, .int .i64 v.hi] 45))) := hide (Hk.out.alloc (by omega) _)
        have Hl2 : Hid ((linesT varT (m.vars.take k)).length + (varT v).length ≤ 140737488355328) := hide (by
          have h1 := Hlen.out
          have h2 := lines_le varT m.vars (k + 1)
          rw [lines_snoc _ Hu.out] at h2
          simp only [List.length_append] at h2 ⊢
          omega)
        go_wp2_with fail
        refine (variable_any w1.heap.size w1.heap.size ⟨_, vn, vc⟩ _ v _ (by simp; omega) (HT1.out.on Hbz.out) ((names_ok Hok.out.vars).1 v (List.mem_of_getElem? Hu.out)).2 (Hp.out.alloc _) Hl2.out).mono ?_
        rintro e w2 ⟨rfl, hp2, hk2⟩
        have Hp2 := hide hp2; have Hk2 := hide (Hbz.out.trans hk2.1); clear hp2 hk2
        go_wp2_with fail
        go_roundw
        case rel => exact ⟨k + 1, hlt2, by go_num, hide (by rw [lines_snoc _ Hu.out]; exact Hp2.out), Hk2⟩
        case measure => simp [intOf]; omega
      · have hlt' : ¬ ((k : Int) < (vn : Int)) := by omega
        have Hkn : Hid (m.vars.length ≤ k) := hide (by have := Hrv.out.1; omega)
        have Hp9 : Hid (Pg w1.heap.size w1.heap.size ⟨vA, vn, vc⟩ (linesT varT m.vars) wr) := hide (by have := Hp.out; rw [List.take_of_length_le Hkn.out] at this; exact this)
        clear Hp Hkn hlt2 hk
        have blk : ∀ {u : World}, Below w1.heap.size w1 u → u.heap[w.heap.size]? = _ := fun h => (h.block w.heap.size (by omega)).trans Hblk1.out
        have q1 := cells (blk Hk.out) 1 _ rfl
        have q2 := cells (blk Hk.out) 2 _ rfl
        have q3 := cells (blk Hk.out) 3 _ rfl
        have HEi := hide (expr_any w1.heap.size w1.heap.size ⟨vA, vn, vc⟩ m.vars w1 (Nat.le_refl _) Hrv.out HT1.out di io im iA il ic m.ie Hie.out (sort_gt Hok.out.ie).2.2)
        have HEj := hide (expr_any w1.heap.size w1.heap.size ⟨vA, vn, vc⟩ m.vars w1 (Nat.le_refl _) Hrv.out HT1.out dj jo jm jA jl jc m.is His.out (sort_gt Hok.out.is).2.2)
        go_wp2_with fail
        refine (rule_of w1.heap.size w1.heap.size ⟨vA, vn, vc⟩ _ (exT m.vars m.ie) (bytesOf wIE) io im iA il ic wr (by omega) Hp9.out (HEi.out.on Hk.out) (by have := Hlen.out; simp only [ruleT, List.length_append] at this ⊢; simp only [bytesOf]; omega)).mono ?_
        rintro e w2 ⟨rfl, hp2, hk2⟩
        have Hp2 := hide hp2; have Hk2 := hide (Hk.out.trans hk2.1); clear hp2 hk2 q1 q2 q3
        have hz2 := Hk2.out.size
        have q4 := cells (blk Hk2.out) 4 _ rfl
        have q5 := cells (blk Hk2.out) 5 _ rfl
        have q6 := cells (blk Hk2.out) 6 _ rfl
        go_wp2_with fail
        refine (rule_of w1.heap.size w1.heap.size ⟨vA, vn, vc⟩ _ (exT m.vars m.is) (bytesOf wIS) jo jm jA jl jc w2 (by omega) Hp2.out (HEj.out.on Hk2.out) (by have := Hlen.out; simp only [ruleT, List.length_append] at this ⊢; simp only [bytesOf]; omega)).mono ?_
        rintro e w3 ⟨rfl, hp3, hk3⟩
        have Hp3 := hide hp3; have Hk3 := hide (Hk2.out.trans hk3.1); clear hp3 hk3 q4 q5 q6
        have hz3 := Hk3.out.size
        have q7 := cells (blk Hk3.out) 7 _ rfl
        have kc : ∀ {r : SL} {cs : List CT} {u : World}, Rows CmdAt 4 w1 w1.heap.size r cs → Below w1.heap.size w1 u → Rows CmdAt 4 u w1.heap.size r cs := fun h hb => h.keep (fun b o x h1 hx => CmdAt.keep h1 hx (fun _ hp => hb.cell hp))
        have ke : ∀ {r : SL} {ts : List T} {u : World}, Rows ExAt 3 w1 w1.heap.size r ts → Below w1.heap.size w1 u → Rows ExAt 3 u w1.heap.size r ts := fun h hb => h.keep (fun b o x h1 hx => ExAt.keep h1 hx (fun _ hp => hb.cell hp))
        go_wp2_with fail
        refine (commands_any w1.heap.size w1.heap.size ⟨vA, vn, vc⟩ ⟨eA, en, ec⟩ m.vars m.env true _ w3 (by omega) (Hrv.out.below Hk3.out) (HT1.out.on Hk3.out) (kc Hen.out Hk3.out) Hok.out.env Hp3.out (by have := Hlen.out; simp only [ruleT, List.length_append] at this ⊢; simp only [bytesOf]; omega)).mono ?_
        rintro e w4 ⟨rfl, hp4, hk4⟩
        have Hp4 := hide hp4; have Hk4 := hide (Hk3.out.trans hk4.1); clear hp4 hk4 q7
        have hz4 := Hk4.out.size
        have q8 := cells (blk Hk4.out) 8 _ rfl
        go_wp2_with fail
        refine (commands_any w1.heap.size w1.heap.size ⟨vA, vn, vc⟩ ⟨sA, sn, sc⟩ m.vars m.sys false _ w4 (by omega) (Hrv.out.below Hk4.out) (HT1.out.on Hk4.out) (kc Hsy.out Hk4.out) Hok.out.sys Hp4.out (by have := Hlen.out; simp only [ruleT, List.length_append] at this ⊢; simp only [bytesOf]; omega)).mono ?_
        rintro e w5 ⟨rfl, hp5, hk5⟩
        have Hp5 := hide hp5; have Hk5 := hide (Hk4.out.trans hk5.1); clear hp5 hk5 q8
        have hz5 := Hk5.out.size
        have q9 := cells (blk Hk5.out) 9 _ rfl
        go_wp2_with fail
        refine (rules_any w1.heap.size w1.heap.size ⟨vA, vn, vc⟩ ⟨aA, an, ac⟩ m.vars m.asm _ (bytesOf wAs) w5 (by omega) (Hrv.out.below Hk5.out) (HT1.out.on Hk5.out) (ke Has.out Hk5.out) Hok.out.asm Hp5.out (by have := Hlen.out; simp only [ruleT, List.length_append] at this ⊢; simp only [bytesOf]; omega)).mono ?_
        rintro e w6 ⟨rfl, hp6, hk6⟩
        have Hp6 := hide hp6; have Hk6 := hide (Hk5.out.trans hk6.1); clear hp6 hk6 q9
        have hz6 := Hk6.out.size
        have q10 := cells (blk Hk6.out) 10 _ rfl
        go_wp2_with fail
        refine (rules_any w1.heap.size w1.heap.size ⟨vA, vn, vc⟩ ⟨nA, nn, nc⟩ m.vars m.ens _ (bytesOf wEn) w6 (by omega) (Hrv.out.below Hk6.out) (HT1.out.on Hk6.out) (ke Hes.out Hk6.out) Hok.out.ens Hp6.out (by have := Hlen.out; simp only [ruleT, List.length_append] at this ⊢; simp only [bytesOf]; omega)).mono ?_
        rintro e w7 ⟨rfl, hp7, hk7⟩
        have Hp7 := hide hp7; have Hk7 := hide (Hk6.out.trans hk7.1); clear hp7 hk7 q10
        have hz7 := Hk7.out.size
        have q11 := cells (blk Hk7.out) 11 _ rfl
        go_wp2_with fail
        refine (rules_any w1.heap.size w1.heap.size ⟨vA, vn, vc⟩ ⟨pA, pn, pc⟩ m.vars m.prio _ (bytesOf wPr) w7 (by omega) (Hrv.out.below Hk7.out) (HT1.out.on Hk7.out) (ke Hpr.out Hk7.out) Hok.out.prio Hp7.out (by have := Hlen.out; simp only [ruleT, List.length_append] at this ⊢; simp only [bytesOf]; omega)).mono ?_
        rintro e w8 ⟨rfl, hp8, hk8⟩
        have Hk8 := hide (Hk7.out.trans hk8.1)
        have Hp8 : Hid (Pg w1.heap.size w1.heap.size ⟨vA, vn, vc⟩ (modT m) w8) := hide (by
          unfold modT
          have := hp8
          simp only [ruleT, bytesOf, List.append_assoc] at this ⊢
          exact this)
        clear hp8 hk8 q11
        have hz8 := Hk8.out.size
        go_wp2_with fail
        refine (string_any w1.heap.size w1.heap.size ⟨vA, vn, vc⟩ (modT m) w8 Hp8.out (mod_ne m)).mono ?_
        rintro e w9 ⟨rfl, hb9⟩
        have Hb9 := hide (Hb1.out.trans ((Hk8.out.trans hb9).mono (by omega)))
        clear hb9
        go_wp2_with fail
        go_ret
        exact ⟨by rw [Hsh.out]; rfl, Hb9.out⟩
  · have hsb : (modE m != 0) = true := by simp [hs]
    have Hsh : Hid (showM m = []) := hide (if_neg hs)
    clear hs
    go_wp2_with fail
    go_ret
    exact ⟨by rw [Hsh.out]; rfl, Hb1.out⟩
end Go.Proofs.YtjpphjmehgflpaaGreatDoor
