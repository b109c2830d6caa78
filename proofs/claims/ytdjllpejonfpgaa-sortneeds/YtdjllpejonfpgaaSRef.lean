/- The walks of the reference's Sort and Needs. -/
import Derived.Test.YtdjllpejonfpgaaSTyped
namespace Go.Proofs.Ytdjllpejonfpgaa
open Go.RowKit Ex
set_option linter.unusedSimpArgs false
set_option linter.unusedVariables false

def sortE (l : List Dom.V) (t : T) : Int × Int := if Dom.mayL l = 0 then (if mayE t = 0 then tyT l t else (0, mayE t)) else (0, Dom.mayL l)

set_option maxHeartbeats 1000000 in
theorem rsort_any (B : Nat) (Av : Option Addr) (nv cv : Nat) (lv : List Dom.V) (d : Nat) (op n : Int) (A : Option Addr) (len cap : Nat) (t : T) (w : World) (hnv : nv ≤ maxLen) (hnc : nv ≤ cv) (hcv : cv ≤ maxLen) (hB : B ≤ w.heap.size) (hre : RE w B d op n A len cap t) (hrv : Dom.RV w B Av nv lv) (hnm : ∀ v ∈ lv, v.nm.size ≤ maxLen) :
    Calls Try.prog 11 #[.slice Av nv cv, .agg #[.int .i64 op, .int .i64 n, .slice A len cap]] w fun e w' => e = .returned (.tuple #[.int .i64 (sortE lv t).1, .int .i64 (sortE lv t).2]) ∧ Below w.heap.size w w' := by
  have hbx : Below w.heap.size w (w.alloc (.cells #[.int .i64 op, .int .i64 n, .slice A len cap] 25)) := (Below.refl _ _).alloc (Nat.le_refl _) _
  have Hre := hide (hre.below (hbx.mono hB))
  have Hrv := hide (hrv.below (hbx.mono hB))
  have Hbox := hide (box_new w op n A len cap 25)
  have hz0 : (w.alloc (.cells #[.int .i64 op, .int .i64 n, .slice A len cap] 25)).heap.size = w.heap.size + 1 := by simp
  have Hbx := hide hbx
  clear hre hrv hbx
  have Hs : Hid (sortE lv t = if Dom.mayL lv = 0 then (if mayE t = 0 then tyT lv t else (0, mayE t)) else (0, Dom.mayL lv)) := hide rfl
  go_enter Try.func11, Try.ntmps11
  go_wp2_with fail
  generalize w.alloc (.cells #[.int .i64 op, .int .i64 n, .slice A len cap] 25) = W at *
  refine (Dom.rmay_any Av nv cv B lv W hnv hnc hcv (by omega) Hrv.out hnm).mono ?_
  rintro e w1 ⟨rfl, hb1⟩
  have hz1 := hb1.size
  have Hb1 := hide (Hbx.out.trans (hb1.mono (by omega)))
  have Hre1 := hide (Hre.out.below (hb1.mono (by omega)))
  have Hrv1 := hide (Hrv.out.below (hb1.mono (by omega)))
  obtain ⟨f0, f1, f2⟩ := Hbox.out.below hb1 (by omega)
  have Hbox1 := hide (Hbox.out.below hb1 (by omega))
  clear hb1 Hre Hrv Hbox Hbx
  by_cases hm : Dom.mayL lv = 0
  · have hmb : (Dom.mayL lv != 0) = false := by simp [hm]
    rw [if_pos hm] at Hs
    clear hm
    go_wp2_with fail
    refine (rmay_any B d op n A len cap t w1 (by omega) Hre1.out).mono ?_
    rintro e w2 ⟨rfl, hb2⟩
    have hz2 := hb2.size
    have Hb2 := hide (Hb1.out.trans (hb2.mono (by omega)))
    have Hre2 := hide (Hre1.out.below (hb2.mono (by omega)))
    have Hrv2 := hide (Hrv1.out.below (hb2.mono (by omega)))
    clear f0 f1 f2
    obtain ⟨f0, f1, f2⟩ := Hbox1.out.below hb2 (by omega)
    clear hb2 Hre1 Hrv1 Hbox1
    by_cases he : mayE t = 0
    · have heb : (mayE t != 0) = false := by simp [he]
      have Hsd := hide (may_sound he)
      rw [if_pos he] at Hs
      clear he
      go_wp2_with fail
      refine (rtyped_any B Av nv cv lv hnv d op n A len cap t w2 (by omega) Hre2.out Hsd.out Hrv2.out).mono ?_
      rintro e w3 ⟨rfl, hb3⟩
      have Hb3 := hide (Hb2.out.trans (hb3.mono (by omega)))
      clear hb3 f0 f1 f2
      generalize tyT lv t = r at *
      obtain ⟨r1, r2⟩ := r
      simp only
      go_wp2_with fail
      go_ret2
      exact ⟨ret_pair Hs.out, Hb3.out⟩
    · have heb : (mayE t != 0) = true := by simp [he]
      rw [if_neg he] at Hs
      clear he
      go_wp2_with fail
      go_ret2
      exact ⟨ret_pair Hs.out, Hb2.out⟩
  · have hmb : (Dom.mayL lv != 0) = true := by simp [hm]
    rw [if_neg hm] at Hs
    clear hm
    go_wp2_with fail
    go_ret2
    exact ⟨ret_pair Hs.out, Hb1.out⟩

/- what an expression of a sort reads is there -/
mutual
theorem ty_reads (l : List Dom.V) : ∀ (t : T) (op : Int) (i : Nat), op = 3 ∨ op = 4 → (tyT l t).2 = 0 → rdT t op i = true → i < l.length
  | .mk o n ks, op, i, ho, h, hr => by
    rw [tyT] at h
    by_cases hk : (tyK l ks).2 = 0
    · rw [if_pos hk] at h
      rw [rdT, Bool.or_eq_true, Bool.and_eq_true] at hr
      rcases hr with ⟨h1, h2⟩ | h3
      · have h1 : o = op := by simpa using h1
        have h2 : n = (i : Int) := by simpa using h2
        unfold tyN at h
        rw [if_neg (by omega), if_neg (by omega), if_pos (by omega)] at h
        by_cases hl : (l.length : Int) ≤ n
        · rw [if_pos hl] at h; simp at h
        · omega
      · exact tyK_reads l ks op i ho hk h3
    · rw [if_neg hk] at h
      exact absurd h hk
theorem tyK_reads (l : List Dom.V) : ∀ (ks : List T) (op : Int) (i : Nat), op = 3 ∨ op = 4 → (tyK l ks).2 = 0 → rdK ks op i = true → i < l.length
  | [], op, i, ho, h, hr => by rw [rdK] at hr; exact absurd hr (by simp)
  | k :: r, op, i, ho, h, hr => by
    rw [tyK] at h
    by_cases hk : (tyT l k).2 = 0
    · rw [if_pos hk] at h
      rw [rdK, Bool.or_eq_true] at hr
      rcases hr with h1 | h2
      · exact ty_reads l k op i ho hk h1
      · exact tyK_reads l r op i ho h h2
    · rw [if_neg hk] at h
      exact absurd h hk
end
theorem pick_mem (F : Nat → Bool) (k : Nat) (x : Int) : x ∈ pickTo F k → ∃ i : Nat, i < k ∧ F i = true ∧ x = (i : Int) := by
  unfold pickTo
  simp only [List.mem_map, List.mem_filter, List.mem_range]
  rintro ⟨i, ⟨h1, h2⟩, rfl⟩
  exact ⟨i, h1, h2, rfl⟩
theorem sort_reads {l : List Dom.V} {t : T} {next : Bool} (h : (sortE l t).2 = 0) {x : Int} (hx : x ∈ readsE t next) : ∃ i : Nat, i < 6 ∧ i < l.length ∧ x = (i : Int) := by
  unfold sortE at h
  by_cases hm : Dom.mayL l = 0
  · rw [if_pos hm] at h
    by_cases he : mayE t = 0
    · rw [if_pos he] at h
      unfold readsE at hx
      rw [if_pos he] at hx
      obtain ⟨i, h6, hr, rfl⟩ := pick_mem _ _ _ hx
      exact ⟨i, h6, ty_reads l t (opOf next) i (by unfold opOf; cases next <;> simp) h hr, rfl⟩
    · rw [if_neg he] at h; exact absurd h he
  · rw [if_neg hm] at h; exact absurd h hm

def envAt (l : List Dom.V) (x : Int) : Bool := ((l[x.toNat]?).map Dom.V.env).getD false
def nextBad (l : List Dom.V) (env sys : Bool) : List Int → Bool
  | [] => false
  | x :: r => (envAt l x && !env || !envAt l x && !sys) || nextBad l env sys r
def nowBad (l : List Dom.V) (now : Bool) : List Int → Bool
  | [] => false
  | x :: r => (!envAt l x && !now) || nowBad l now r
def needE (l : List Dom.V) (t : T) (want : Int) (now env sys : Bool) : Int :=
  if (sortE l t).2 = 0 then (if (sortE l t).1 = want then (if nextBad l env sys (readsE t true) = true then 5 else if nowBad l now (readsE t false) = true then 3 else 0) else 4) else (sortE l t).2
theorem readsE_six (t : T) (next : Bool) : (readsE t next).length ≤ 6 := by
  unfold readsE
  split
  · exact pickTo_len _ _
  · simp

set_option maxRecDepth 100000 in
set_option maxHeartbeats 4000000 in
theorem rneeds_any (B : Nat) (Av : Option Addr) (nv cv : Nat) (lv : List Dom.V) (d : Nat) (op n : Int) (A : Option Addr) (len cap : Nat) (t : T) (want : Int) (now env sys : Bool) (w : World) (hnv : nv ≤ maxLen) (hnc : nv ≤ cv) (hcv : cv ≤ maxLen) (hB : B ≤ w.heap.size) (hre : RE w B d op n A len cap t) (hrv : Dom.RV w B Av nv lv) (hnm : ∀ v ∈ lv, v.nm.size ≤ maxLen) :
    Calls Try.prog 13 #[.slice Av nv cv, .agg #[.int .i64 op, .int .i64 n, .slice A len cap], .int .i64 want, .bool now, .bool env, .bool sys] w fun e w' => e = .returned (.int .i64 (needE lv t want now env sys)) ∧ Below w.heap.size w w' := by
  have hbx : Below w.heap.size w (w.alloc (.cells #[.int .i64 op, .int .i64 n, .slice A len cap] 25)) := (Below.refl _ _).alloc (Nat.le_refl _) _
  have Hre := hide (hre.below (hbx.mono hB))
  have Hrv := hide (hrv.below (hbx.mono hB))
  have Hnl := hide hrv.1
  have Hbox := hide (box_new w op n A len cap 25)
  have hz0 : (w.alloc (.cells #[.int .i64 op, .int .i64 n, .slice A len cap] 25)).heap.size = w.heap.size + 1 := by simp
  have Hbx := hide hbx
  have Hnv := hide hnv
  have Hnm := hide hnm
  unfold maxLen at hnv
  clear hre hrv hbx hnm
  have Hs : Hid (needE lv t want now env sys = if (sortE lv t).2 = 0 then (if (sortE lv t).1 = want then (if nextBad lv env sys (readsE t true) = true then 5 else if nowBad lv now (readsE t false) = true then 3 else 0) else 4) else (sortE lv t).2) := hide rfl
  have Hin : Hid (∀ (next : Bool) (x : Int), (sortE lv t).2 = 0 → x ∈ readsE t next → ∃ i : Nat, i < 6 ∧ i < nv ∧ x = (i : Int)) := hide (fun next x h hx => by
    obtain ⟨i, h1, h2, h3⟩ := sort_reads h hx
    exact ⟨i, h1, by rw [← Hnl.out]; exact h2, h3⟩)
  obtain ⟨f0, f1, f2⟩ := Hbox.out
  go_enter Try.func13, Try.ntmps13
  go_wp2_with fail
  clear f0 f1 f2
  generalize w.alloc (.cells #[.int .i64 op, .int .i64 n, .slice A len cap] 25) = W at *
  refine (rsort_any B Av nv cv lv d op n A len cap t W Hnv.out hnc hcv (by omega) Hre.out Hrv.out Hnm.out).mono ?_
  rintro e w1 ⟨rfl, hb1⟩
  have hz1 := hb1.size
  have Hb1 := hide (Hbx.out.trans (hb1.mono (by omega)))
  have Hre1 := hide (Hre.out.below (hb1.mono (by omega)))
  have Hrv1 := hide (Hrv.out.below (hb1.mono (by omega)))
  have Hbox1 := hide (Hbox.out.below hb1 (by omega))
  clear hb1 Hre Hrv Hbox Hbx
  generalize sortE lv t = r at *
  obtain ⟨r1, r2⟩ := r
  simp only at Hs Hin ⊢
  by_cases h2 : r2 = 0
  · have h2b : (r2 != 0) = false := by simp [h2]
    rw [if_pos h2] at Hs
    have Hin2 : Hid (∀ (next : Bool) (x : Int), x ∈ readsE t next → ∃ i : Nat, i < 6 ∧ i < nv ∧ x = (i : Int)) := hide (fun next x hx => Hin.out next x h2 hx)
    clear h2 Hin
    by_cases h1 : r1 = want
    · have h1b : (r1 != want) = false := by simp [h1]
      rw [if_pos h1] at Hs
      clear h1
      obtain ⟨f0, f1, f2⟩ := Hbox1.out
      go_wp2_with fail
      clear f0 f1 f2
      refine (rReads_any B d op n A len cap t true w1 (by omega) Hre1.out).mono ?_
      rintro e w2 ⟨O, m, c, rfl, hown, hm, hb2⟩
      have hz2 := hb2.size
      have Hb2 := hide (Hb1.out.trans (hb2.mono (by omega)))
      have Hre2 := hide (Hre1.out.below (hb2.mono (by omega)))
      have Hrv2 := hide (Hrv1.out.below (hb2.mono (by omega)))
      have Hbox2 := hide (Hbox1.out.below hb2 (by omega))
      have Hri := hide (own_ri hown)
      have hm6 : m ≤ 6 := by rw [← hm]; exact readsE_six _ _
      have Hm := hide hm
      clear hb2 hown hm Hre1 Hrv1 Hbox1 Hb1
      have Hmem : Hid (∀ x ∈ readsE t true, ∃ i : Nat, i < 6 ∧ i < nv ∧ x = (i : Int)) := hide (Hin2.out true)
      generalize readsE t true = xs at *
      go_wp2_with fail
      go_loopw [34] (fun i wr => ∃ j : Nat, j ≤ m ∧ i = .int .i64 j ∧ Hid (nextBad lv env sys (xs.drop j) = nextBad lv env sys xs) ∧ wr = w2) (fun i _ => m - (intOf i).toNat)
      case atStart => exact ⟨0, by omega, rfl, hide rfl, rfl⟩
      case round =>
        obtain ⟨j, hj, rfl, HB, rfl⟩ := hrel
        by_cases hjl : j < m
        · have hjl' : ((j : Int) < (m : Int)) := by omega
          obtain ⟨bb, bo, x, rfl, hbb, hx, cx⟩ := Hri.out.at_ hjl
          obtain ⟨q, hq6, hqn, rfl⟩ := Hmem.out x (List.mem_of_getElem? hx)
          obtain ⟨vb, vo, v, rfl, hvb, hvq, g0, g1, g2, g3, g4⟩ := Hrv2.out.at_ (k := q) hqn
          have hqn' : (q : Int) < (nv : Int) := by omega
          have Hst : Hid (((v.env && !env || !v.env && !sys) || nextBad lv env sys (xs.drop (j + 1))) = nextBad lv env sys xs) := hide (by
            rw [← HB.out, drop_at hx, nextBad]
            have : envAt lv (q : Int) = v.env := by unfold envAt; simp [hvq]
            rw [this])
          clear hx hvq g0 g2 g3 g4 HB
          cases hve : v.env
          · rw [hve] at g1
            cases sys
            · have Hf : Hid (needE lv t want now env false = 5) := hide (by rw [Hs.out, ← Hst.out, hve]; simp)
              go_wp2_with fail
              go_ret
              exact ⟨ret_int Hf.out.symm, Hb2.out⟩
            · have Hon : Hid (nextBad lv env true (xs.drop (j + 1)) = nextBad lv env true xs) := hide (by rw [← Hst.out, hve]; simp)
              go_wp2_with fail
              go_roundw
              case rel => exact ⟨j + 1, by omega, by go_num, Hon, by first | rfl | trivial⟩
              case measure => simp [intOf]; omega
          · rw [hve] at g1
            cases env
            · have Hf : Hid (needE lv t want now false sys = 5) := hide (by rw [Hs.out, ← Hst.out, hve]; simp)
              go_wp2_with fail
              go_ret
              exact ⟨ret_int Hf.out.symm, Hb2.out⟩
            · have Hon : Hid (nextBad lv true sys (xs.drop (j + 1)) = nextBad lv true sys xs) := hide (by rw [← Hst.out, hve]; simp)
              go_wp2_with fail
              go_roundw
              case rel => exact ⟨j + 1, by omega, by go_num, Hon, by first | rfl | trivial⟩
              case measure => simp [intOf]; omega
        · have hjl' : ¬ ((j : Int) < (m : Int)) := by omega
          have hnb : nextBad lv env sys xs = false := by rw [← HB.out, List.drop_of_length_le (by rw [Hm.out]; omega)]; rfl
          rw [hnb] at Hs
          simp only [Bool.false_eq_true, if_false] at Hs
          clear hnb HB
          obtain ⟨f0, f1, f2⟩ := Hbox2.out
          obtain ⟨wA, rfl⟩ : ∃ wA, wA = wr := ⟨_, rfl⟩
          go_wp2_with fail
          clear f0 f1 f2
          refine (rReads_any B d op n A len cap t false wA (by omega) Hre2.out).mono ?_
          rintro e w3 ⟨O2, m2, c2, rfl, hown, hm, hb3⟩
          have hz3 := hb3.size
          have Hb3 := hide (Hb2.out.trans (hb3.mono (by omega)))
          have Hrv3 := hide (Hrv2.out.below (hb3.mono (by omega)))
          have Hri2 := hide (own_ri hown)
          have hm62 : m2 ≤ 6 := by rw [← hm]; exact readsE_six _ _
          have Hm2 := hide hm
          clear hb3 hown hm Hre2 Hrv2 Hbox2 Hb2 Hmem Hri Hm
          have Hmem : Hid (∀ x ∈ readsE t false, ∃ i : Nat, i < 6 ∧ i < nv ∧ x = (i : Int)) := hide (Hin2.out false)
          generalize readsE t false = ys at *
          go_wp2_with fail
          go_loopw [63] (fun i wr => ∃ j : Nat, j ≤ m2 ∧ i = .int .i64 j ∧ Hid (nowBad lv now (ys.drop j) = nowBad lv now ys) ∧ wr = w3) (fun i _ => m2 - (intOf i).toNat)
          case atStart => exact ⟨0, by omega, rfl, hide rfl, rfl⟩
          case round =>
            obtain ⟨j2, hj2, rfl, HB, rfl⟩ := hrel
            by_cases hjl2 : j2 < m2
            · have hjl2' : ((j2 : Int) < (m2 : Int)) := by omega
              obtain ⟨bb, bo, x, rfl, hbb, hx, cx⟩ := Hri2.out.at_ hjl2
              obtain ⟨q, hq6, hqn, rfl⟩ := Hmem.out x (List.mem_of_getElem? hx)
              obtain ⟨vb, vo, v, rfl, hvb, hvq, g0, g1, g2, g3, g4⟩ := Hrv3.out.at_ (k := q) hqn
              have hqn' : (q : Int) < (nv : Int) := by omega
              have Hst : Hid (((!v.env && !now) || nowBad lv now (ys.drop (j2 + 1))) = nowBad lv now ys) := hide (by
                rw [← HB.out, drop_at hx, nowBad]
                have : envAt lv (q : Int) = v.env := by unfold envAt; simp [hvq]
                rw [this])
              clear hx hvq g0 g2 g3 g4 HB
              cases hve : v.env
              · rw [hve] at g1
                cases now
                · have Hf : Hid (needE lv t want false env sys = 3) := hide (by rw [Hs.out, ← Hst.out, hve]; simp)
                  go_wp2_with fail
                  go_ret
                  exact ⟨ret_int Hf.out.symm, Hb3.out⟩
                · have Hon : Hid (nowBad lv true (ys.drop (j2 + 1)) = nowBad lv true ys) := hide (by rw [← Hst.out, hve]; simp)
                  go_wp2_with fail
                  go_roundw
                  case rel => exact ⟨j2 + 1, by omega, by go_num, Hon, by first | rfl | trivial⟩
                  case measure => simp [intOf]; omega
              · rw [hve] at g1
                have Hon : Hid (nowBad lv now (ys.drop (j2 + 1)) = nowBad lv now ys) := hide (by rw [← Hst.out, hve]; simp)
                go_wp2_with fail
                go_roundw
                case rel => exact ⟨j2 + 1, by omega, by go_num, Hon, by first | rfl | trivial⟩
                case measure => simp [intOf]; omega
            · have hjl2' : ¬ ((j2 : Int) < (m2 : Int)) := by omega
              have Hf : Hid (needE lv t want now env sys = 0) := hide (by
                rw [Hs.out, ← HB.out, List.drop_of_length_le (by rw [Hm2.out]; omega)]; rfl)
              go_wp2_with fail
              go_ret
              exact ⟨ret_int Hf.out.symm, Hb3.out⟩
    · have h1b : (r1 != want) = true := by simp [h1]
      rw [if_neg h1] at Hs
      clear h1
      go_wp2_with fail
      go_ret
      exact ⟨ret_int Hs.out.symm, Hb1.out⟩
  · have h2b : (r2 != 0) = true := by simp [h2]
    rw [if_neg h2] at Hs
    clear h2
    go_wp2_with fail
    go_ret
    exact ⟨ret_int Hs.out.symm, Hb1.out⟩
end Go.Proofs.Ytdjllpejonfpgaa
