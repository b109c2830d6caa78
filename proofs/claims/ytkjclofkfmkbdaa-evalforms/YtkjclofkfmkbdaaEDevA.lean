/- The walks of the program's Value and True. -/
import Derived.Test.YtkjclofkfmkbdaaEFind
import Derived.Test.YtkjclofkfmkbdaaMSort
namespace Go.Proofs.Ytkjclofkfmkbdaa
open Go.RowKit Ex
set_option linter.unusedSimpArgs false
set_option linter.unusedVariables false

set_option maxHeartbeats 4000000 in
theorem dval_any (B : Nat) (Av : Option Addr) (nv cv : Nat) (lv : List Dom.V) (d : Nat) (op n : Int) (A : Option Addr) (len cap : Nat) (t : T) (now next : Int) (w : World) (hnv : nv ≤ maxLen) (hnc : nv ≤ cv) (hcv : cv ≤ maxLen) (hB : B ≤ w.heap.size) (hre : RE w B d op n A len cap t) (hrv : Dom.RV w B Av nv lv) (hnm : ∀ v ∈ lv, v.nm.size ≤ maxLen) :
    Calls Try.prog 12 #[.slice Av nv cv, .agg #[.int .i64 op, .int .i64 n, .slice A len cap], .int .i64 now, .int .i64 next] w fun e w' => e = .returned (.tuple #[.int .i64 (valE lv t now next).1, .int .i64 (valE lv t now next).2]) ∧ Below w.heap.size w w' := by
  have hbx : Below w.heap.size w (w.alloc (.cells #[.int .i64 op, .int .i64 n, .slice A len cap] 25)) := (Below.refl _ _).alloc (Nat.le_refl _) _
  have Hre := hide (hre.below (hbx.mono hB))
  have Hrv := hide (hrv.below (hbx.mono hB))
  have Hnl := hide hrv.1
  have Hbox := hide (box_new w op n A len cap 25)
  have hz0 : w.heap.size + 1 ≤ (w.alloc (.cells #[.int .i64 op, .int .i64 n, .slice A len cap] 25)).heap.size := by simp
  have Hbx := hide hbx
  have Hnm := hide hnm
  clear hre hrv hbx hnm
  have Hs : Hid (valE lv t now next = if (sortE lv t).2 = 0 then (if isSt lv now = true ∧ isSt lv next = true then valP (vT (Dom.valsL lv now) (Dom.valsL lv next) t) else (0, 1)) else (0, (sortE lv t).2)) := hide rfl
  have Hok : Hid ((sortE lv t).2 = 0 → Dom.mayL lv = 0 ∧ mayE t = 0 ∧ (tyT lv t).2 = 0) := hide (fun h => by
    unfold sortE at h
    by_cases hm : Dom.mayL lv = 0
    · rw [if_pos hm] at h
      by_cases he : mayE t = 0
      · rw [if_pos he] at h; exact ⟨hm, he, h⟩
      · rw [if_neg he] at h; exact absurd h he
    · rw [if_neg hm] at h; exact absurd h hm)
  obtain ⟨f0, f1, f2⟩ := Hbox.out
  go_enter Try.func12, Try.ntmps12
  go_wp2_with fail
  clear f0 f1 f2
  generalize w.alloc (.cells #[.int .i64 op, .int .i64 n, .slice A len cap] 25) = W at *
  refine (of_any B Av nv cv lv d op n A len cap t W hnv hnc hcv (by omega) Hre.out Hrv.out Hnm.out).mono ?_
  rintro e w1 ⟨rfl, hb1⟩
  have hz1 := hb1.size
  have Hb1 := hide (Hbx.out.trans (hb1.mono (by omega)))
  have Hre1 := hide (Hre.out.below (hb1.mono (by omega)))
  have Hrv1 := hide (Hrv.out.below (hb1.mono (by omega)))
  have Hbox1 := hide (Hbox.out.below hb1 (by omega))
  clear hb1 Hre Hrv Hbox Hbx
  generalize sortE lv t = r at *
  obtain ⟨r1, r2⟩ := r
  simp only at Hs Hok ⊢
  by_cases h2 : r2 = 0
  · have h2b : (r2 != 0) = false := by simp [h2]
    rw [if_pos h2] at Hs
    obtain ⟨hml, hmt, hty⟩ := Hok.out h2
    have Hml := hide hml
    have Hsd := hide (may_sound hmt)
    have Hty : Hid ((tyT lv t).2 = 0) := hide hty
    have H3 : Hid (∀ i, rdT t 3 i = true → i < nv) := hide (fun i hi => by rw [← Hnl.out]; exact ty_reads lv t 3 i (.inl rfl) hty hi)
    have H4 : Hid (∀ i, rdT t 4 i = true → i < nv) := hide (fun i hi => by rw [← Hnl.out]; exact ty_reads lv t 4 i (.inr rfl) hty hi)
    have hn6 : nv ≤ 6 := by have := Dom.totL_len (Dom.mayL_zero hml).2; rw [Hnl.out] at this; exact this
    have Hsm := hide (fun s => vals_small lv s (may_each hml))
    clear h2 hml hmt hty Hok
    by_cases hs1 : 0 ≤ now ∧ now < Dom.totL lv
    · have Hi1 : Hid (isSt lv now = true) := hide (by unfold isSt; exact decide_eq_true hs1)
      go_wp2_with fail
      refine (Dom.vals_good Av nv cv B lv now w1 (by omega) Hrv1.out Hnm.out Hml.out hs1.1 hs1.2).mono ?_
      rintro e w2 ⟨g1, rfl, hg1, hrow1, hb2⟩
      have hz2 := hb2.size
      have Hb2 := hide (Hb1.out.trans (hb2.mono (by omega)))
      have Hre2 := hide (Hre1.out.below (hb2.mono (by omega)))
      have Hrv2 := hide (Hrv1.out.below (hb2.mono (by omega)))
      have Hbox2 := hide (Hbox1.out.below hb2 (by omega))
      have Hr1 : Hid (RI w2 w2.heap.size (some ⟨g1, 0, none⟩) nv (Dom.valsL lv now)) := hide (row_ri (by exact hrow1) (by rw [Dom.valsL_length, Hnl.out]) hrow1.lt)
      clear hb2 hrow1 hg1 Hb1 Hre1 Hrv1 Hbox1 hs1
      by_cases hs2 : 0 ≤ next ∧ next < Dom.totL lv
      · have Hi2 : Hid (isSt lv next = true) := hide (by unfold isSt; exact decide_eq_true hs2)
        rw [if_pos ⟨Hi1.out, Hi2.out⟩] at Hs
        go_wp2_with fail
        refine (Dom.vals_good Av nv cv B lv next w2 (by omega) Hrv2.out Hnm.out Hml.out hs2.1 hs2.2).mono ?_
        rintro e w3 ⟨g2, rfl, hg2, hrow2, hb3⟩
        have hz3 := hb3.size
        have Hb3 := hide (Hb2.out.trans (hb3.mono (by omega)))
        have Hre3 := hide (RE.more (B' := w3.heap.size) (by omega) _ _ _ _ _ _ _ (Hre2.out.below (hb3.mono (by omega))))
        obtain ⟨f0, f1, f2⟩ := Hbox2.out.below hb3 (by omega)
        have Hr2 : Hid (RI w3 w3.heap.size (some ⟨g2, 0, none⟩) nv (Dom.valsL lv next)) := hide (row_ri (by exact hrow2) (by rw [Dom.valsL_length, Hnl.out]) hrow2.lt)
        have Hr13 := hide ((Hr1.out.below hb3).more (B' := w3.heap.size) (by omega))
        clear hb3 hrow2 hg2 Hb2 Hre2 Hrv2 Hbox2 hs2 Hr1
        go_wp2_with fail
        refine (dfind_any w3.heap.size (some ⟨g1, 0, none⟩) nv nv (Dom.valsL lv now) (some ⟨g2, 0, none⟩) nv nv (Dom.valsL lv next) lv Hnl.out.symm Hnl.out.symm (by have := Hnl.out; omega) (vals_fine lv now (may_each Hml.out)) (vals_fine lv next (may_each Hml.out)) d op n A len cap t w3 (Nat.le_refl _) Hre3.out Hsd.out Hty.out Hr13.out Hr2.out).mono ?_
        rintro e w4 ⟨rfl, hb4⟩
        have Hb4 := hide (Hb3.out.trans (hb4.mono (by omega)))
        clear hb4 f0 f1 f2
        generalize valP (vT (Dom.valsL lv now) (Dom.valsL lv next) t) = r at *
        obtain ⟨p1, p2⟩ := r
        simp only
        go_wp2_with fail
        go_ret2
        exact ⟨ret_pair Hs.out, Hb4.out⟩
      · rw [if_neg (fun h => hs2 (by simpa [isSt] using h.2))] at Hs
        go_wp2_with fail
        refine (Dom.vals_bad Av nv cv B lv next w2 hnv (by omega) Hrv2.out Hnm.out (.inr (by omega))).mono ?_
        rintro e w3 ⟨rfl, hb3⟩
        have Hb3 := hide (Hb2.out.trans (hb3.mono (by omega)))
        clear hb3
        go_wp2_with fail
        go_ret2
        exact ⟨ret_pair Hs.out, Hb3.out⟩
    · rw [if_neg (fun h => hs1 (by simpa [isSt] using h.1))] at Hs
      go_wp2_with fail
      refine (Dom.vals_bad Av nv cv B lv now w1 hnv (by omega) Hrv1.out Hnm.out (.inr (by omega))).mono ?_
      rintro e w2 ⟨rfl, hb2⟩
      have hz2 := hb2.size
      have Hb2 := hide (Hb1.out.trans (hb2.mono (by omega)))
      have Hrv2 := hide (Hrv1.out.below (hb2.mono (by omega)))
      clear hb2
      by_cases hs2 : 0 ≤ next ∧ next < Dom.totL lv
      · go_wp2_with fail
        refine (Dom.vals_good Av nv cv B lv next w2 (by omega) Hrv2.out Hnm.out Hml.out hs2.1 hs2.2).mono ?_
        rintro e w3 ⟨g2, rfl, hg2, hrow2, hb3⟩
        have Hb3 := hide (Hb2.out.trans (hb3.mono (by omega)))
        clear hb3 hrow2 hg2
        go_wp2_with fail
        go_ret2
        exact ⟨ret_pair Hs.out, Hb3.out⟩
      · go_wp2_with fail
        refine (Dom.vals_bad Av nv cv B lv next w2 hnv (by omega) Hrv2.out Hnm.out (.inr (by omega))).mono ?_
        rintro e w3 ⟨rfl, hb3⟩
        have Hb3 := hide (Hb2.out.trans (hb3.mono (by omega)))
        clear hb3
        go_wp2_with fail
        go_ret2
        exact ⟨ret_pair Hs.out, Hb3.out⟩
  · have h2b : (r2 != 0) = true := by simp [h2]
    rw [if_neg h2] at Hs
    clear h2
    go_wp2_with fail
    go_ret2
    exact ⟨ret_pair Hs.out, Hb1.out⟩

set_option maxHeartbeats 1000000 in
theorem dtrue_any (B : Nat) (Av : Option Addr) (nv cv : Nat) (lv : List Dom.V) (d : Nat) (op n : Int) (A : Option Addr) (len cap : Nat) (t : T) (now next : Int) (w : World) (hnv : nv ≤ maxLen) (hnc : nv ≤ cv) (hcv : cv ≤ maxLen) (hB : B ≤ w.heap.size) (hre : RE w B d op n A len cap t) (hrv : Dom.RV w B Av nv lv) (hnm : ∀ v ∈ lv, v.nm.size ≤ maxLen) :
    Calls Try.prog 14 #[.slice Av nv cv, .agg #[.int .i64 op, .int .i64 n, .slice A len cap], .int .i64 now, .int .i64 next] w fun e w' => e = .returned (.bool (trueE lv t now next)) ∧ Below w.heap.size w w' := by
  have hbx : Below w.heap.size w (w.alloc (.cells #[.int .i64 op, .int .i64 n, .slice A len cap] 25)) := (Below.refl _ _).alloc (Nat.le_refl _) _
  have Hre := hide (hre.below (hbx.mono hB))
  have Hrv := hide (hrv.below (hbx.mono hB))
  have Hbox := hide (box_new w op n A len cap 25)
  have hz0 : w.heap.size + 1 ≤ (w.alloc (.cells #[.int .i64 op, .int .i64 n, .slice A len cap] 25)).heap.size := by simp
  have Hbx := hide hbx
  clear hre hrv hbx
  have Ht : Hid (trueE lv t now next = (((valE lv t now next).2 == 0) && ((sortE lv t).1 == 1) && ((valE lv t now next).1 == 1))) := hide rfl
  obtain ⟨f0, f1, f2⟩ := Hbox.out
  go_enter Try.func14, Try.ntmps14
  go_wp2_with fail
  clear f0 f1 f2
  generalize w.alloc (.cells #[.int .i64 op, .int .i64 n, .slice A len cap] 25) = W at *
  refine (of_any B Av nv cv lv d op n A len cap t W hnv hnc hcv (by omega) Hre.out Hrv.out hnm).mono ?_
  rintro e w1 ⟨rfl, hb1⟩
  have hz1 := hb1.size
  have Hb1 := hide (Hbx.out.trans (hb1.mono (by omega)))
  have Hre1 := hide (Hre.out.below (hb1.mono (by omega)))
  have Hrv1 := hide (Hrv.out.below (hb1.mono (by omega)))
  obtain ⟨f0, f1, f2⟩ := Hbox.out.below hb1 (by omega)
  clear hb1 Hre Hrv Hbox Hbx
  go_wp2_with fail
  refine (dval_any B Av nv cv lv d op n A len cap t now next w1 hnv hnc hcv (by omega) Hre1.out Hrv1.out hnm).mono ?_
  rintro e w2 ⟨rfl, hb2⟩
  have Hb2 := hide (Hb1.out.trans (hb2.mono (by omega)))
  clear hb2 f0 f1 f2
  generalize valE lv t now next = r at *
  generalize (sortE lv t).1 = s at *
  obtain ⟨r1, r2⟩ := r
  simp only at Ht ⊢
  cases q1 : r2 == 0
  · have Hf : Hid (trueE lv t now next = false) := hide (by rw [Ht.out, q1]; rfl)
    go_wp2_with fail
    go_ret
    exact ⟨ret_bool Hf.out.symm, Hb2.out⟩
  · cases q2 : s == 1
    · have Hf : Hid (trueE lv t now next = false) := hide (by rw [Ht.out, q1, q2]; rfl)
      go_wp2_with fail
      go_ret
      exact ⟨ret_bool Hf.out.symm, Hb2.out⟩
    · have Hf : Hid (trueE lv t now next = (r1 == 1)) := hide (by rw [Ht.out, q1, q2]; rfl)
      go_wp2_with fail
      go_ret
      exact ⟨ret_bool Hf.out.symm, Hb2.out⟩
end Go.Proofs.Ytkjclofkfmkbdaa
