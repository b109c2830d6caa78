/- The walks of the program's mayRead, Of and Needs. -/
import Derived.Test.YtdjllpejonfpgaaSFind
import Derived.Test.YtdjllpejonfpgaaSRef
namespace Go.Proofs.Ytdjllpejonfpgaa
open Go.RowKit Ex
set_option linter.unusedSimpArgs false
set_option linter.unusedVariables false

theorem now_next (l : List Dom.V) (now : Bool) : ∀ xs, nextBad l true now xs = nowBad l now xs
  | [] => rfl
  | x :: r => by rw [nextBad, nowBad, now_next l now r]; simp

set_option maxRecDepth 100000 in
set_option maxHeartbeats 4000000 in
theorem mayRead_any (B : Nat) (Av : Option Addr) (nv cv : Nat) (lv : List Dom.V) (X : Option Addr) (m c : Nat) (xs : List Int) (env sys : Bool) (w : World) (hnv : nv ≤ maxLen) (hm : m ≤ 6) (hri : RI w B X m xs) (hrv : Dom.RV w B Av nv lv) (hin : ∀ x ∈ xs, ∃ i : Nat, i < 6 ∧ i < nv ∧ x = (i : Int)) :
    Calls Try.prog 24 #[.slice Av nv cv, .slice X m c, .bool env, .bool sys] w fun e w' => e = .returned (.bool (!nextBad lv env sys xs)) ∧ Below w.heap.size w w' := by
  unfold maxLen at hnv
  have Hri := hide hri
  have Hrv := hide hrv
  have Hin := hide hin
  clear hri hrv hin
  go_enter Try.func24, Try.ntmps24
  go_wp2_with fail
  go_loopw [13] (fun i wr => ∃ j : Nat, j ≤ m ∧ i = .int .i64 j ∧ Hid (nextBad lv env sys (xs.drop j) = nextBad lv env sys xs) ∧ wr = w) (fun i _ => m - (intOf i).toNat)
  case atStart => exact ⟨0, by omega, rfl, hide rfl, rfl⟩
  case round =>
    obtain ⟨j, hj, rfl, HB, rfl⟩ := hrel
    by_cases hjl : j < m
    · have hjl' : ((j : Int) < (m : Int)) := by omega
      obtain ⟨bb, bo, x, rfl, hbb, hx, cx⟩ := Hri.out.at_ hjl
      obtain ⟨q, hq6, hqn, rfl⟩ := Hin.out x (List.mem_of_getElem? hx)
      obtain ⟨vb, vo, v, rfl, hvb, hvq, g0, g1, g2, g3, g4⟩ := Hrv.out.at_ (k := q) hqn
      have hqn' : (q : Int) < (nv : Int) := by omega
      have Hst : Hid (((v.env && !env || !v.env && !sys) || nextBad lv env sys (xs.drop (j + 1))) = nextBad lv env sys xs) := hide (by
        rw [← HB.out, drop_at hx, nextBad]
        have : envAt lv (q : Int) = v.env := by unfold envAt; simp [hvq]
        rw [this])
      clear hx hvq g0 g2 g3 g4 HB
      cases hve : v.env
      · rw [hve] at g1
        cases sys
        · have Hf : Hid ((!nextBad lv env false xs) = false) := hide (by rw [← Hst.out, hve]; simp)
          go_wp2_with fail
          go_ret
          exact ⟨ret_bool Hf.out.symm, Below.refl _ _⟩
        · have Hon : Hid (nextBad lv env true (xs.drop (j + 1)) = nextBad lv env true xs) := hide (by rw [← Hst.out, hve]; simp)
          go_wp2_with fail
          go_roundw
          case rel => exact ⟨j + 1, by omega, by go_num, Hon, by first | rfl | trivial⟩
          case measure => simp [intOf]; omega
      · rw [hve] at g1
        cases env
        · have Hf : Hid ((!nextBad lv false sys xs) = false) := hide (by rw [← Hst.out, hve]; simp)
          go_wp2_with fail
          go_ret
          exact ⟨ret_bool Hf.out.symm, Below.refl _ _⟩
        · have Hon : Hid (nextBad lv true sys (xs.drop (j + 1)) = nextBad lv true sys xs) := hide (by rw [← Hst.out, hve]; simp)
          go_wp2_with fail
          go_roundw
          case rel => exact ⟨j + 1, by omega, by go_num, Hon, by first | rfl | trivial⟩
          case measure => simp [intOf]; omega
    · have hjl' : ¬ ((j : Int) < (m : Int)) := by omega
      have Hf : Hid ((!nextBad lv env sys xs) = true) := hide (by rw [← HB.out, List.drop_of_length_le (by rw [Hri.out.1]; omega)]; rfl)
      go_wp2_with fail
      go_ret
      exact ⟨ret_bool Hf.out.symm, Below.refl _ _⟩

set_option maxRecDepth 100000 in
set_option maxHeartbeats 4000000 in
theorem of_any (B : Nat) (Av : Option Addr) (nv cv : Nat) (lv : List Dom.V) (d : Nat) (op n : Int) (A : Option Addr) (len cap : Nat) (t : T) (w : World) (hnv : nv ≤ maxLen) (hnc : nv ≤ cv) (hcv : cv ≤ maxLen) (hB : B ≤ w.heap.size) (hre : RE w B d op n A len cap t) (hrv : Dom.RV w B Av nv lv) (hnm : ∀ v ∈ lv, v.nm.size ≤ maxLen) :
    Calls Try.prog 10 #[.slice Av nv cv, .agg #[.int .i64 op, .int .i64 n, .slice A len cap]] w fun e w' => e = .returned (.tuple #[.int .i64 (sortE lv t).1, .int .i64 (sortE lv t).2]) ∧ Below w.heap.size w w' := by
  have hbx : Below w.heap.size w (w.alloc (.cells #[.int .i64 op, .int .i64 n, .slice A len cap] 25)) := (Below.refl _ _).alloc (Nat.le_refl _) _
  have Hre := hide (hre.below (hbx.mono hB))
  have Hrv := hide (hrv.below (hbx.mono hB))
  have Hbox := hide (box_new w op n A len cap 25)
  have hz0 : (w.alloc (.cells #[.int .i64 op, .int .i64 n, .slice A len cap] 25)).heap.size = w.heap.size + 1 := by simp
  have Hbx := hide hbx
  clear hre hrv hbx
  have Hs : Hid (sortE lv t = if Dom.mayL lv = 0 then (if mayE t = 0 then tyT lv t else (0, mayE t)) else (0, Dom.mayL lv)) := hide rfl
  go_enter Try.func10, Try.ntmps10
  go_wp2_with fail
  generalize w.alloc (.cells #[.int .i64 op, .int .i64 n, .slice A len cap] 25) = W at *
  refine (Dom.may_any Av nv cv B lv W hnv (by omega) Hrv.out hnm).mono ?_
  rintro e w1 ⟨rfl, hb1⟩
  have hz1 := hb1.size
  have Hb1 := hide (Hbx.out.trans (hb1.mono (by omega)))
  have Hre1 := hide (Hre.out.below (hb1.mono (by omega)))
  have Hrv1 := hide (Hrv.out.below (hb1.mono (by omega)))
  obtain ⟨f0, f1, f2⟩ := Hbox.out.below hb1 (by omega)
  have Hbox1 := hide (Hbox.out.below hb1 (by omega))
  clear hb1 Hre Hrv Hbox Hbx
  by_cases hm : Dom.mayL lv = 0
  · have hmb : (Dom.mayL lv != 0) = false := by simp [hm]
    rw [if_pos hm] at Hs
    clear hm
    go_wp2_with fail
    refine (may_any B d op n A len cap t w1 (by omega) Hre1.out).mono ?_
    rintro e w2 ⟨rfl, hb2⟩
    have hz2 := hb2.size
    have Hb2 := hide (Hb1.out.trans (hb2.mono (by omega)))
    have Hre2 := hide (Hre1.out.below (hb2.mono (by omega)))
    have Hrv2 := hide (Hrv1.out.below (hb2.mono (by omega)))
    clear f0 f1 f2
    obtain ⟨f0, f1, f2⟩ := Hbox1.out.below hb2 (by omega)
    clear hb2 Hre1 Hrv1 Hbox1
    by_cases he : mayE t = 0
    · have heb : (mayE t != 0) = false := by simp [he]
      have Hsd := hide (may_sound he)
      rw [if_pos he] at Hs
      clear he
      go_wp2_with fail
      refine (find_any B Av nv cv lv hnv d op n A len cap t w2 (by omega) Hre2.out Hsd.out Hrv2.out).mono ?_
      rintro e w3 ⟨rfl, hb3⟩
      have Hb3 := hide (Hb2.out.trans (hb3.mono (by omega)))
      clear hb3 f0 f1 f2
      generalize tyT lv t = r at *
      obtain ⟨r1, r2⟩ := r
      simp only
      go_wp2_with fail
      go_ret2
      exact ⟨ret_pair Hs.out, Hb3.out⟩
    · have heb : (mayE t != 0) = true := by simp [he]
      rw [if_neg he] at Hs
      clear he
      go_wp2_with fail
      go_ret2
      exact ⟨ret_pair Hs.out, Hb2.out⟩
  · have hmb : (Dom.mayL lv != 0) = true := by simp [hm]
    rw [if_neg hm] at Hs
    clear hm
    go_wp2_with fail
    go_ret2
    exact ⟨ret_pair Hs.out, Hb1.out⟩

set_option maxRecDepth 100000 in
set_option maxHeartbeats 4000000 in
theorem needs_any (B : Nat) (Av : Option Addr) (nv cv : Nat) (lv : List Dom.V) (d : Nat) (op n : Int) (A : Option Addr) (len cap : Nat) (t : T) (want : Int) (now env sys : Bool) (w : World) (hnv : nv ≤ maxLen) (hnc : nv ≤ cv) (hcv : cv ≤ maxLen) (hB : B ≤ w.heap.size) (hre : RE w B d op n A len cap t) (hrv : Dom.RV w B Av nv lv) (hnm : ∀ v ∈ lv, v.nm.size ≤ maxLen) :
    Calls Try.prog 12 #[.slice Av nv cv, .agg #[.int .i64 op, .int .i64 n, .slice A len cap], .int .i64 want, .bool now, .bool env, .bool sys] w fun e w' => e = .returned (.int .i64 (needE lv t want now env sys)) ∧ Below w.heap.size w w' := by
  have hbx : Below w.heap.size w (w.alloc (.cells #[.int .i64 op, .int .i64 n, .slice A len cap] 25)) := (Below.refl _ _).alloc (Nat.le_refl _) _
  have Hre := hide (hre.below (hbx.mono hB))
  have Hrv := hide (hrv.below (hbx.mono hB))
  have Hnl := hide hrv.1
  have Hbox := hide (box_new w op n A len cap 25)
  have hz0 : (w.alloc (.cells #[.int .i64 op, .int .i64 n, .slice A len cap] 25)).heap.size = w.heap.size + 1 := by simp
  have Hbx := hide hbx
  have Hnv := hide hnv
  have Hnm := hide hnm
  unfold maxLen at hnv
  clear hre hrv hbx hnm
  have Hs : Hid (needE lv t want now env sys = if (sortE lv t).2 = 0 then (if (sortE lv t).1 = want then (if nextBad lv env sys (readsE t true) = true then 5 else if nowBad lv now (readsE t false) = true then 3 else 0) else 4) else (sortE lv t).2) := hide rfl
  have Hin : Hid (∀ (next : Bool) (x : Int), (sortE lv t).2 = 0 → x ∈ readsE t next → ∃ i : Nat, i < 6 ∧ i < nv ∧ x = (i : Int)) := hide (fun next x h hx => by
    obtain ⟨i, h1, h2, h3⟩ := sort_reads h hx
    exact ⟨i, h1, by rw [← Hnl.out]; exact h2, h3⟩)
  obtain ⟨f0, f1, f2⟩ := Hbox.out
  go_enter Try.func12, Try.ntmps12
  go_wp2_with fail
  clear f0 f1 f2
  generalize w.alloc (.cells #[.int .i64 op, .int .i64 n, .slice A len cap] 25) = W at *
  refine (of_any B Av nv cv lv d op n A len cap t W Hnv.out hnc hcv (by omega) Hre.out Hrv.out Hnm.out).mono ?_
  rintro e w1 ⟨rfl, hb1⟩
  have hz1 := hb1.size
  have Hb1 := hide (Hbx.out.trans (hb1.mono (by omega)))
  have Hre1 := hide (Hre.out.below (hb1.mono (by omega)))
  have Hrv1 := hide (Hrv.out.below (hb1.mono (by omega)))
  have Hbox1 := hide (Hbox.out.below hb1 (by omega))
  clear hb1 Hre Hrv Hbox Hbx
  generalize sortE lv t = r at *
  obtain ⟨r1, r2⟩ := r
  simp only at Hs Hin ⊢
  by_cases h2 : r2 = 0
  · have h2b : (r2 != 0) = false := by simp [h2]
    rw [if_pos h2] at Hs
    have Hin2 : Hid (∀ (next : Bool) (x : Int), x ∈ readsE t next → ∃ i : Nat, i < 6 ∧ i < nv ∧ x = (i : Int)) := hide (fun next x hx => Hin.out next x h2 hx)
    clear h2 Hin
    by_cases h1 : r1 = want
    · have h1b : (r1 != want) = false := by simp [h1]
      rw [if_pos h1] at Hs
      clear h1
      obtain ⟨f0, f1, f2⟩ := Hbox1.out
      go_wp2_with fail
      clear f0 f1 f2
      refine (reads_any B d op n A len cap t true w1 (by omega) Hre1.out).mono ?_
      rintro e w2 ⟨O, m, c, rfl, hown, hm, hb2⟩
      have hz2 := hb2.size
      have Hb2 := hide (Hb1.out.trans (hb2.mono (by omega)))
      have Hre2 := hide (Hre1.out.below (hb2.mono (by omega)))
      have Hrv2 := hide (Hrv1.out.below (hb2.mono (by omega)))
      have Hbox2 := hide (Hbox1.out.below hb2 (by omega))
      have Hri := hide (own_ri hown)
      have hm6 : m ≤ 6 := by rw [← hm]; exact readsE_six _ _
      clear hb2 hown hm Hre1 Hrv1 Hbox1 Hb1
      have Hmem : Hid (∀ x ∈ readsE t true, ∃ i : Nat, i < 6 ∧ i < nv ∧ x = (i : Int)) := hide (Hin2.out true)
      generalize readsE t true = xs at *
      go_wp2_with fail
      refine (mayRead_any w2.heap.size Av nv cv lv O m c xs env sys w2 Hnv.out hm6 Hri.out (Hrv2.out.more (by omega)) Hmem.out).mono ?_
      rintro e w3 ⟨rfl, hb3⟩
      have hz3 := hb3.size
      have Hb3 := hide (Hb2.out.trans (hb3.mono (by omega)))
      have Hre3 := hide (Hre2.out.below (hb3.mono (by omega)))
      have Hrv3 := hide (Hrv2.out.below (hb3.mono (by omega)))
      have Hbox3 := hide (Hbox2.out.below hb3 (by omega))
      clear hb3 Hre2 Hrv2 Hbox2 Hb2 Hmem Hri
      generalize nextBad lv env sys xs = nb at *
      cases nb
      · rw [if_neg (by simp)] at Hs
        obtain ⟨f0, f1, f2⟩ := Hbox3.out
        go_wp2_with fail
        clear f0 f1 f2
        refine (reads_any B d op n A len cap t false w3 (by omega) Hre3.out).mono ?_
        rintro e w4 ⟨O2, m2, c2, rfl, hown, hm, hb4⟩
        have hz4 := hb4.size
        have Hb4 := hide (Hb3.out.trans (hb4.mono (by omega)))
        have Hrv4 := hide (Hrv3.out.below (hb4.mono (by omega)))
        have Hri2 := hide (own_ri hown)
        have hm62 : m2 ≤ 6 := by rw [← hm]; exact readsE_six _ _
        clear hb4 hown hm Hre3 Hrv3 Hbox3 Hb3
        have Hmem : Hid (∀ x ∈ readsE t false, ∃ i : Nat, i < 6 ∧ i < nv ∧ x = (i : Int)) := hide (Hin2.out false)
        generalize readsE t false = ys at *
        go_wp2_with fail
        refine (mayRead_any w4.heap.size Av nv cv lv O2 m2 c2 ys true now w4 Hnv.out hm62 Hri2.out (Hrv4.out.more (by omega)) Hmem.out).mono ?_
        rintro e w5 ⟨rfl, hb5⟩
        have Hb5 := hide (Hb4.out.trans (hb5.mono (by omega)))
        rw [now_next]
        clear hb5 Hrv4 Hb4 Hmem Hri2
        generalize nowBad lv now ys = nb at *
        cases nb
        · rw [if_neg (by simp)] at Hs
          go_wp2_with fail
          go_ret
          exact ⟨ret_int Hs.out.symm, Hb5.out⟩
        · rw [if_pos rfl] at Hs
          go_wp2_with fail
          go_ret
          exact ⟨ret_int Hs.out.symm, Hb5.out⟩
      · rw [if_pos rfl] at Hs
        go_wp2_with fail
        go_ret
        exact ⟨ret_int Hs.out.symm, Hb3.out⟩
    · have h1b : (r1 != want) = true := by simp [h1]
      rw [if_neg h1] at Hs
      clear h1
      go_wp2_with fail
      go_ret
      exact ⟨ret_int Hs.out.symm, Hb1.out⟩
  · have h2b : (r2 != 0) = true := by simp [h2]
    rw [if_neg h2] at Hs
    clear h2
    go_wp2_with fail
    go_ret
    exact ⟨ret_int Hs.out.symm, Hb1.out⟩
end Go.Proofs.Ytdjllpejonfpgaa
