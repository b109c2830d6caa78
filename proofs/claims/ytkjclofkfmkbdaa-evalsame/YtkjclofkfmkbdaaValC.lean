/- The walks of the reference's Value and True. -/
import Derived.Test.YtkjclofkfmkbdaaValB
import Derived.Test.YtkjclofkfmkbdaaVRefE
namespace Go.Proofs.Ytkjclofkfmkbdaa
open Go.RowKit Ex
set_option linter.unusedSimpArgs false
set_option linter.unusedVariables false

def isSt (l : List Dom.V) (s : Int) : Bool := decide (0 ≤ s ∧ s < Dom.totL l)
def valP (v : Option Int) : Int × Int := match v with
  | some n => (n, 0)
  | none => (0, 6)
def valE (l : List Dom.V) (t : T) (now next : Int) : Int × Int :=
  if (sortE l t).2 = 0 then (if isSt l now = true ∧ isSt l next = true then valP (vT (Dom.valsL l now) (Dom.valsL l next) t) else (0, 1)) else (0, (sortE l t).2)
def trueE (l : List Dom.V) (t : T) (now next : Int) : Bool := ((valE l t now next).2 == 0) && ((sortE l t).1 == 1) && ((valE l t now next).1 == 1)
theorem mayGo_all' : ∀ (l : List Dom.V) (seen : List (List UInt8)), Dom.mayGo seen l = 0 → ∀ v ∈ l, v.may = 0
  | [], _, _, v, hv => by simp at hv
  | u :: r, seen, h, v, hv => by
    rw [Dom.mayGo] at h
    split at h
    · omega
    · split at h
      · rename_i h2; exact absurd h h2
      · rename_i h2
        rcases List.mem_cons.1 hv with rfl | hv
        · exact Decidable.byContradiction h2
        · exact mayGo_all' r _ h v hv
theorem may_each {l : List Dom.V} (h : Dom.mayL l = 0) : ∀ v ∈ l, v.may = 0 := by
  have hg : Dom.mayGo [] l = 0 := by
    unfold Dom.mayL at h
    split at h
    · rename_i h2; exact absurd h h2
    · rename_i h2; exact Decidable.byContradiction h2
  exact mayGo_all' l [] hg
theorem val_one {v : Dom.V} (h : v.may = 0) (s : Int) : -1000 ≤ v.lo + s % v.size ∧ v.lo + s % v.size ≤ 1000 := by
  unfold Dom.V.may Dom.mayOfV at h
  unfold Dom.V.size Dom.sizeOfV
  split at h
  · rename_i h1
    rw [if_pos h1]
    split at h
    · omega
    · omega
  · rename_i h1
    rw [if_neg h1]
    split at h
    · rename_i h2
      split at h
      · rename_i h3
        rw [if_pos ⟨h2, h3⟩]
        have := Dom.range_true h3
        have hp : 0 < v.hi - v.lo + 1 := by omega
        have h4 := Int.emod_nonneg s (show v.hi - v.lo + 1 ≠ 0 by omega)
        have h5 := Int.emod_lt_of_pos s hp
        omega
      · omega
    · omega
theorem vals_small : ∀ (l : List Dom.V) (s : Int), (∀ v ∈ l, v.may = 0) → Small (Dom.valsL l s)
  | [], s, _, x, hx => by simp [Dom.valsL] at hx
  | v :: r, s, h, x, hx => by
    rw [Dom.valsL] at hx
    rcases List.mem_cons.1 hx with rfl | hx
    · exact val_one (h v (by simp)) s
    · exact vals_small r _ (fun u hu => h u (by simp [hu])) x hx

set_option maxHeartbeats 4000000 in
theorem rval_any (B : Nat) (Av : Option Addr) (nv cv : Nat) (lv : List Dom.V) (d : Nat) (op n : Int) (A : Option Addr) (len cap : Nat) (t : T) (now next : Int) (w : World) (hnv : nv ≤ maxLen) (hnc : nv ≤ cv) (hcv : cv ≤ maxLen) (hB : B ≤ w.heap.size) (hre : RE w B d op n A len cap t) (hrv : Dom.RV w B Av nv lv) (hnm : ∀ v ∈ lv, v.nm.size ≤ maxLen) :
    Calls Try.prog 13 #[.slice Av nv cv, .agg #[.int .i64 op, .int .i64 n, .slice A len cap], .int .i64 now, .int .i64 next] w fun e w' => e = .returned (.tuple #[.int .i64 (valE lv t now next).1, .int .i64 (valE lv t now next).2]) ∧ Below w.heap.size w w' := by
  have hbx : Below w.heap.size w (w.alloc (.cells #[.int .i64 op, .int .i64 n, .slice A len cap] 25)) := (Below.refl _ _).alloc (Nat.le_refl _) _
  have Hre := hide (hre.below (hbx.mono hB))
  have Hrv := hide (hrv.below (hbx.mono hB))
  have Hnl := hide hrv.1
  have Hbox := hide (box_new w op n A len cap 25)
  have hz0 : w.heap.size + 1 ≤ (w.alloc (.cells #[.int .i64 op, .int .i64 n, .slice A len cap] 25)).heap.size := by simp
  have Hbx := hide hbx
  have Hnm := hide hnm
  clear hre hrv hbx hnm
  have Hs : Hid (valE lv t now next = if (sortE lv t).2 = 0 then (if isSt lv now = true ∧ isSt lv next = true then valP (vT (Dom.valsL lv now) (Dom.valsL lv next) t) else (0, 1)) else (0, (sortE lv t).2)) := hide rfl
  have Hok : Hid ((sortE lv t).2 = 0 → Dom.mayL lv = 0 ∧ mayE t = 0 ∧ (tyT lv t).2 = 0) := hide (fun h => by
    unfold sortE at h
    by_cases hm : Dom.mayL lv = 0
    · rw [if_pos hm] at h
      by_cases he : mayE t = 0
      · rw [if_pos he] at h; exact ⟨hm, he, h⟩
      · rw [if_neg he] at h; exact absurd h he
    · rw [if_neg hm] at h; exact absurd h hm)
  obtain ⟨f0, f1, f2⟩ := Hbox.out
  go_enter Try.func13, Try.ntmps13
  go_wp2_with fail
  clear f0 f1 f2
  generalize w.alloc (.cells #[.int .i64 op, .int .i64 n, .slice A len cap] 25) = W at *
  refine (rsort_any B Av nv cv lv d op n A len cap t W hnv hnc hcv (by omega) Hre.out Hrv.out Hnm.out).mono ?_
  rintro e w1 ⟨rfl, hb1⟩
  have hz1 := hb1.size
  have Hb1 := hide (Hbx.out.trans (hb1.mono (by omega)))
  have Hre1 := hide (Hre.out.below (hb1.mono (by omega)))
  have Hrv1 := hide (Hrv.out.below (hb1.mono (by omega)))
  have Hbox1 := hide (Hbox.out.below hb1 (by omega))
  clear hb1 Hre Hrv Hbox Hbx
  generalize sortE lv t = r at *
  obtain ⟨r1, r2⟩ := r
  simp only at Hs Hok ⊢
  by_cases h2 : r2 = 0
  · have h2b : (r2 != 0) = false := by simp [h2]
    rw [if_pos h2] at Hs
    obtain ⟨hml, hmt, hty⟩ := Hok.out h2
    have Hml := hide hml
    have Hsd := hide (may_sound hmt)
    have H3 : Hid (∀ i, rdT t 3 i = true → i < nv) := hide (fun i hi => by rw [← Hnl.out]; exact ty_reads lv t 3 i (.inl rfl) hty hi)
    have H4 : Hid (∀ i, rdT t 4 i = true → i < nv) := hide (fun i hi => by rw [← Hnl.out]; exact ty_reads lv t 4 i (.inr rfl) hty hi)
    have hn6 : nv ≤ 6 := by have := Dom.totL_len (Dom.mayL_zero hml).2; rw [Hnl.out] at this; exact this
    have Hsm := hide (fun s => vals_small lv s (may_each hml))
    clear h2 hml hmt hty Hok
    by_cases hs1 : 0 ≤ now ∧ now < Dom.totL lv
    · have Hi1 : Hid (isSt lv now = true) := hide (by unfold isSt; exact decide_eq_true hs1)
      go_wp2_with fail
      refine (Dom.rvals_good Av nv cv B lv now w1 hnc hcv (by omega) Hrv1.out Hnm.out Hml.out hs1.1 hs1.2).mono ?_
      rintro e w2 ⟨O1, c1, rfl, hown1, hb2⟩
      have hz2 := hb2.size
      have Hb2 := hide (Hb1.out.trans (hb2.mono (by omega)))
      have Hre2 := hide (Hre1.out.below (hb2.mono (by omega)))
      have Hrv2 := hide (Hrv1.out.below (hb2.mono (by omega)))
      have Hbox2 := hide (Hbox1.out.below hb2 (by omega))
      have Hr1 : Hid (RI w2 w2.heap.size O1 nv (Dom.valsL lv now)) := hide (own_ri (by exact hown1))
      clear hb2 hown1 Hb1 Hre1 Hrv1 Hbox1 hs1
      by_cases hs2 : 0 ≤ next ∧ next < Dom.totL lv
      · have Hi2 : Hid (isSt lv next = true) := hide (by unfold isSt; exact decide_eq_true hs2)
        rw [if_pos ⟨Hi1.out, Hi2.out⟩] at Hs
        go_wp2_with fail
        refine (Dom.rvals_good Av nv cv B lv next w2 hnc hcv (by omega) Hrv2.out Hnm.out Hml.out hs2.1 hs2.2).mono ?_
        rintro e w3 ⟨O2, c2, rfl, hown2, hb3⟩
        have hz3 := hb3.size
        have Hb3 := hide (Hb2.out.trans (hb3.mono (by omega)))
        have Hre3 := hide (RE.more (B' := w3.heap.size) (by omega) _ _ _ _ _ _ _ (Hre2.out.below (hb3.mono (by omega))))
        obtain ⟨f0, f1, f2⟩ := Hbox2.out.below hb3 (by omega)
        have Hr2 : Hid (RI w3 w3.heap.size O2 nv (Dom.valsL lv next)) := hide (own_ri (by exact hown2))
        have Hr13 := hide ((Hr1.out.below hb3).more (B' := w3.heap.size) (by omega))
        clear hb3 hown2 Hb2 Hre2 Hrv2 Hbox2 hs2 Hr1
        go_wp2_with fail
        refine (rvalue_any w3.heap.size O1 nv c1 (Dom.valsL lv now) O2 nv c2 (Dom.valsL lv next) (by omega) (by omega) (Hsm.out now) (Hsm.out next) d op n A len cap t w3 (Nat.le_refl _) Hre3.out Hsd.out Hr13.out Hr2.out H3.out H4.out).mono ?_
        rintro e w4 ⟨x, ok, rfl, hvx, hb4⟩
        have Hb4 := hide (Hb3.out.trans (hb4.mono (by omega)))
        rw [hvx] at Hs
        clear hb4 f0 f1 f2 hvx
        cases ok
        · go_wp2_with fail
          go_ret2
          exact ⟨ret_pair Hs.out, Hb4.out⟩
        · go_wp2_with fail
          go_ret2
          exact ⟨ret_pair Hs.out, Hb4.out⟩
      · rw [if_neg (fun h => hs2 (by simpa [isSt] using h.2))] at Hs
        go_wp2_with fail
        refine (Dom.rvals_bad Av nv cv B lv next w2 hnv hnc hcv (by omega) Hrv2.out Hnm.out (.inr (by omega))).mono ?_
        rintro e w3 ⟨rfl, hb3⟩
        have Hb3 := hide (Hb2.out.trans (hb3.mono (by omega)))
        clear hb3
        go_wp2_with fail
        go_ret2
        exact ⟨ret_pair Hs.out, Hb3.out⟩
    · rw [if_neg (fun h => hs1 (by simpa [isSt] using h.1))] at Hs
      go_wp2_with fail
      refine (Dom.rvals_bad Av nv cv B lv now w1 hnv hnc hcv (by omega) Hrv1.out Hnm.out (.inr (by omega))).mono ?_
      rintro e w2 ⟨rfl, hb2⟩
      have hz2 := hb2.size
      have Hb2 := hide (Hb1.out.trans (hb2.mono (by omega)))
      have Hrv2 := hide (Hrv1.out.below (hb2.mono (by omega)))
      clear hb2
      by_cases hs2 : 0 ≤ next ∧ next < Dom.totL lv
      · go_wp2_with fail
        refine (Dom.rvals_good Av nv cv B lv next w2 hnc hcv (by omega) Hrv2.out Hnm.out Hml.out hs2.1 hs2.2).mono ?_
        rintro e w3 ⟨O2, c2, rfl, hown2, hb3⟩
        have Hb3 := hide (Hb2.out.trans (hb3.mono (by omega)))
        clear hb3 hown2
        go_wp2_with fail
        go_ret2
        exact ⟨ret_pair Hs.out, Hb3.out⟩
      · go_wp2_with fail
        refine (Dom.rvals_bad Av nv cv B lv next w2 hnv hnc hcv (by omega) Hrv2.out Hnm.out (.inr (by omega))).mono ?_
        rintro e w3 ⟨rfl, hb3⟩
        have Hb3 := hide (Hb2.out.trans (hb3.mono (by omega)))
        clear hb3
        go_wp2_with fail
        go_ret2
        exact ⟨ret_pair Hs.out, Hb3.out⟩
  · have h2b : (r2 != 0) = true := by simp [h2]
    rw [if_neg h2] at Hs
    clear h2
    go_wp2_with fail
    go_ret2
    exact ⟨ret_pair Hs.out, Hb1.out⟩

set_option maxHeartbeats 1000000 in
theorem rtrue_any (B : Nat) (Av : Option Addr) (nv cv : Nat) (lv : List Dom.V) (d : Nat) (op n : Int) (A : Option Addr) (len cap : Nat) (t : T) (now next : Int) (w : World) (hnv : nv ≤ maxLen) (hnc : nv ≤ cv) (hcv : cv ≤ maxLen) (hB : B ≤ w.heap.size) (hre : RE w B d op n A len cap t) (hrv : Dom.RV w B Av nv lv) (hnm : ∀ v ∈ lv, v.nm.size ≤ maxLen) :
    Calls Try.prog 15 #[.slice Av nv cv, .agg #[.int .i64 op, .int .i64 n, .slice A len cap], .int .i64 now, .int .i64 next] w fun e w' => e = .returned (.bool (trueE lv t now next)) ∧ Below w.heap.size w w' := by
  have hbx : Below w.heap.size w (w.alloc (.cells #[.int .i64 op, .int .i64 n, .slice A len cap] 25)) := (Below.refl _ _).alloc (Nat.le_refl _) _
  have Hre := hide (hre.below (hbx.mono hB))
  have Hrv := hide (hrv.below (hbx.mono hB))
  have Hbox := hide (box_new w op n A len cap 25)
  have hz0 : w.heap.size + 1 ≤ (w.alloc (.cells #[.int .i64 op, .int .i64 n, .slice A len cap] 25)).heap.size := by simp
  have Hbx := hide hbx
  clear hre hrv hbx
  have Ht : Hid (trueE lv t now next = (((valE lv t now next).2 == 0) && ((sortE lv t).1 == 1) && ((valE lv t now next).1 == 1))) := hide rfl
  obtain ⟨f0, f1, f2⟩ := Hbox.out
  go_enter Try.func15, Try.ntmps15
  go_wp2_with fail
  clear f0 f1 f2
  generalize w.alloc (.cells #[.int .i64 op, .int .i64 n, .slice A len cap] 25) = W at *
  refine (rsort_any B Av nv cv lv d op n A len cap t W hnv hnc hcv (by omega) Hre.out Hrv.out hnm).mono ?_
  rintro e w1 ⟨rfl, hb1⟩
  have hz1 := hb1.size
  have Hb1 := hide (Hbx.out.trans (hb1.mono (by omega)))
  have Hre1 := hide (Hre.out.below (hb1.mono (by omega)))
  have Hrv1 := hide (Hrv.out.below (hb1.mono (by omega)))
  obtain ⟨f0, f1, f2⟩ := Hbox.out.below hb1 (by omega)
  clear hb1 Hre Hrv Hbox Hbx
  go_wp2_with fail
  refine (rval_any B Av nv cv lv d op n A len cap t now next w1 hnv hnc hcv (by omega) Hre1.out Hrv1.out hnm).mono ?_
  rintro e w2 ⟨rfl, hb2⟩
  have Hb2 := hide (Hb1.out.trans (hb2.mono (by omega)))
  clear hb2 f0 f1 f2
  generalize valE lv t now next = r at *
  generalize (sortE lv t).1 = s at *
  obtain ⟨r1, r2⟩ := r
  simp only at Ht ⊢
  cases q1 : r2 == 0
  · have Hf : Hid (trueE lv t now next = false) := hide (by rw [Ht.out, q1]; rfl)
    go_wp2_with fail
    go_ret
    exact ⟨ret_bool Hf.out.symm, Hb2.out⟩
  · cases q2 : s == 1
    · have Hf : Hid (trueE lv t now next = false) := hide (by rw [Ht.out, q1, q2]; rfl)
      go_wp2_with fail
      go_ret
      exact ⟨ret_bool Hf.out.symm, Hb2.out⟩
    · have Hf : Hid (trueE lv t now next = (r1 == 1)) := hide (by rw [Ht.out, q1, q2]; rfl)
      go_wp2_with fail
      go_ret
      exact ⟨ret_bool Hf.out.symm, Hb2.out⟩
end Go.Proofs.Ytkjclofkfmkbdaa
