/- The walk of the statement DomForms. -/
import Derived.Test.YtjfomoehedhodaaRefG
namespace Go.Proofs.Ytjfomoehedhodaa
open Go.RowKit Go.WideMaps Go.Maps
set_option linter.unusedSimpArgs false
set_option linter.unusedVariables false

theorem ri_none (w : World) (B : Nat) (A : Option Addr) : RI w B A 0 [] := ⟨rfl, fun h => absurd h (by omega)⟩

set_option maxRecDepth 100000 in
set_option maxHeartbeats 2000000 in
theorem forms_good (A : Option Addr) (n c B : Nat) (l : List V) (s : Int) (Ai : Option Addr) (m ci : Nat) (xs : List Int) (iv x0 : Int) (env : Bool) (nm : ByteArray) (w : World) (hm : n ≤ maxLen) (hnc : n ≤ c) (hc : c ≤ maxLen) (hm2 : m ≤ maxLen) (hns : nm.size ≤ maxLen) (hB : B ≤ w.heap.size) (hv : RV w B A n l) (hi : RI w B Ai m xs) (hnm : ∀ v ∈ l, v.nm.size ≤ maxLen) (hh : heavyGo 0 l = 0) (hm20 : ¬ 20 < m) (hn100 : ¬ 100 < nm.size) (hg : goodS l s = true) :
    Calls Try.prog 3 #[.slice A n c, .int .i64 s, .slice Ai m ci, .int .i64 iv, .int .i64 x0, .bool env, .string nm] w fun e w' => e = .returned (.bool true) ∧ Below w.heap.size w w' := by
  have Hm := hide hm
  have Hc := hide hc
  have Hm2 := hide hm2
  have Hn := hide hv.1
  obtain ⟨hn10, hn100'⟩ := heavy_none l 0 hh
  have hn10' : n ≤ 10 := by rw [hv.1] at hn10; omega
  have Hv := hide hv; clear hv
  have Hi := hide hi; clear hi
  have Hnm := hide hnm; clear hnm
  have Hh := hide hh; clear hh
  have hm20b : decide ((20 : Int) < (m : Int)) = false := by simp; omega
  have hn100b : decide ((100 : Int) < (nm.size : Int)) = false := by simp; omega
  unfold maxLen at hm2 hns
  have hm20' : m ≤ 20 := by omega
  clear hm hc hn10 hn100'
  obtain ⟨hM, hs0, hs1⟩ := goodS_true hg
  have HM := hide hM
  clear hM hg
  go_enter Try.func3, Try.ntmps3
  go_wp2_with fail
  refine (heavy_any A n c B l _ Hm.out hB Hv.out Hnm.out).mono ?_
  rintro e w1 ⟨rfl, hb1⟩
  rw [Hh.out]
  have Hb1 := hide hb1
  have hz1 := hb1.size
  clear hb1
  go_wp2_with fail
  refine (vals_good A n c B l s _ (by omega) (Hv.out.below (Hb1.out.mono hB)) Hnm.out HM.out hs0 hs1).mono ?_
  rintro e w2 ⟨g, rfl, hg, hrow, hb2⟩
  have hz2 := hb2.size
  have Hb2 := hide (Hb1.out.trans (hb2.mono hz1))
  have HA2 := hide (row_ri hrow ((valsL_length l s).trans Hn.out))
  clear hb2 hrow
  go_wp2_with fail
  refine (rvals_good A n c B l s _ hnc Hc.out (by omega) (Hv.out.below (Hb2.out.mono hB)) Hnm.out HM.out hs0 hs1).mono ?_
  rintro e w3 ⟨D, cd, rfl, hown, hb3⟩
  have hz3 := hb3.size
  have Hb3 := hide (Hb2.out.trans (hb3.mono (by omega)))
  have HA3 := hide ((HA2.out.below hb3).more hz3)
  have HD3 := hide (own_ri hown)
  clear hb3 hown HA2
  go_wp2_with fail
  refine (state_any A n c B l Ai m ci xs _ Hm.out Hm2.out (by omega) (Hv.out.below (Hb3.out.mono hB)) (Hi.out.below (Hb3.out.mono hB)) Hnm.out).mono ?_
  rintro e w4 ⟨rfl, hb4⟩
  have hz4 := hb4.size
  have Hb4 := hide (Hb3.out.trans (hb4.mono (by omega)))
  have Hc4 := hide (hb4)
  clear hb4
  go_wp2_with fail
  refine (rstate_any A n c B l Ai m ci xs _ Hm.out hnc Hc.out Hm2.out (by omega) (Hv.out.below (Hb4.out.mono hB)) (Hi.out.below (Hb4.out.mono hB)) Hnm.out).mono ?_
  rintro e w5 ⟨rfl, hb5⟩
  have hz5 := hb5.size
  have Hb5 := hide (Hb4.out.trans (hb5.mono (by omega)))
  have Hc5 := hide (Hc4.out.trans (hb5.mono (by omega)))
  clear hb5
  go_wp2_with fail
  refine (with_any A n c B l s iv x0 _ Hm.out (by omega) (Hv.out.below (Hb5.out.mono hB)) Hnm.out).mono ?_
  rintro e w6 ⟨rfl, hb6⟩
  have hz6 := hb6.size
  have Hb6 := hide (Hb5.out.trans (hb6.mono (by omega)))
  have Hc6 := hide (Hc5.out.trans (hb6.mono (by omega)))
  clear hb6
  go_wp2_with fail
  refine (rwith_any A n c B l s iv x0 _ Hm.out hnc Hc.out (by omega) (Hv.out.below (Hb6.out.mono hB)) Hnm.out).mono ?_
  rintro e w7 ⟨rfl, hb7⟩
  have hz7 := hb7.size
  have Hb7 := hide (Hb6.out.trans (hb7.mono (by omega)))
  have Hc7 := hide (Hc6.out.trans (hb7.mono (by omega)))
  clear hb7
  go_wp2_with fail
  refine (may_any A n c B l _ Hm.out (by omega) (Hv.out.below (Hb7.out.mono hB)) Hnm.out).mono ?_
  rintro e w8 ⟨rfl, hb8⟩
  have hz8 := hb8.size
  have Hb8 := hide (Hb7.out.trans (hb8.mono (by omega)))
  have Hc8 := hide (Hc7.out.trans (hb8.mono (by omega)))
  clear hb8
  go_wp2_with fail
  refine (rmay_any A n c B l _ Hm.out hnc Hc.out (by omega) (Hv.out.below (Hb8.out.mono hB)) Hnm.out).mono ?_
  rintro e w9 ⟨rfl, hb9⟩
  have hz9 := hb9.size
  have Hb9 := hide (Hb8.out.trans (hb9.mono (by omega)))
  have Hc9 := hide (Hc8.out.trans (hb9.mono (by omega)))
  clear hb9
  go_wp2_with fail
  refine (total_any A n c B l _ Hm.out (by omega) (Hv.out.below (Hb9.out.mono hB))).mono ?_
  rintro e w10 ⟨rfl, hb10⟩
  have hz10 := hb10.size
  have Hb10 := hide (Hb9.out.trans (hb10.mono (by omega)))
  have Hc10 := hide (Hc9.out.trans (hb10.mono (by omega)))
  clear hb10
  go_wp2_with fail
  refine (rtotal_any A n c B l _ Hm.out hnc Hc.out (by omega) (Hv.out.below (Hb10.out.mono hB)) Hnm.out).mono ?_
  rintro e w11 ⟨rfl, hb11⟩
  have hz11 := hb11.size
  have Hb11 := hide (Hb10.out.trans (hb11.mono (by omega)))
  have Hc11 := hide (Hc10.out.trans (hb11.mono (by omega)))
  clear hb11
  go_wp2_with fail
  refine (same_any (some ⟨g, 0, none⟩) D n n cd w3.heap.size (valsL l s) _ Hm.out (by omega) (HA3.out.below Hc11.out) (HD3.out.below Hc11.out)).mono ?_
  rintro e w12 ⟨rfl, hb12⟩
  have hz12 := hb12.size
  have Hb12 := hide (Hb11.out.trans (hb12.mono (by omega)))
  clear hb12
  clear HA3 HD3
  by_cases hn0 : n = 0
  · have hn0b : decide ((0 : Int) < (n : Int)) = false := by simp; omega
    have hn0c : decide (0 < n) = false := by simp; omega
    clear hn0
    go_wp2_with fail
    refine wp_region_quiet_below (by kernel_rfl) (by kernel_rfl) ?_
    repeat (go_big_quiet_step (fail))
    refine wpQuiet_nil ?_
    intro w13 hw13
    obtain ⟨p, hp⟩ := hw13
    have hb13 : Below w12.heap.size w12 w13 := by rw [hp]; exact below_regrown w12 p.d p.os
    have hz13 := hb13.size
    have Hb13 := hide (Hb12.out.trans (hb13.mono (by omega)))
    clear hp hb13
    go_wp2_with fail
    refine (part_any A n c B l s env _ Hm.out (by omega) (Hv.out.below (Hb13.out.mono hB)) Hnm.out).mono ?_
    rintro e w14 ⟨rfl, hb14⟩
    have hz14 := hb14.size
    have Hb14 := hide (Hb13.out.trans (hb14.mono (by omega)))
    clear hb14
    go_wp2_with fail
    refine (rpart_any A n c B l s env _ Hm.out hnc Hc.out (by omega) (Hv.out.below (Hb14.out.mono hB)) Hnm.out).mono ?_
    rintro e w15 ⟨rfl, hb15⟩
    have hz15 := hb15.size
    have Hb15 := hide (Hb14.out.trans (hb15.mono (by omega)))
    clear hb15
    go_wp2_with fail
    refine (find_any A n c B l nm _ Hm.out (by omega) (Hv.out.below (Hb15.out.mono hB))).mono ?_
    rintro e w16 ⟨rfl, hb16⟩
    have hz16 := hb16.size
    have Hb16 := hide (Hb15.out.trans (hb16.mono (by omega)))
    clear hb16
    go_wp2_with fail
    refine (rfind_any A n c B l nm _ Hm.out (by omega) (Hv.out.below (Hb16.out.mono hB))).mono ?_
    rintro e w17 ⟨rfl, hb17⟩
    have hz17 := hb17.size
    have Hb17 := hide (Hb16.out.trans (hb17.mono (by omega)))
    clear hb17
    go_wp2_with fail
    refine (awake_any _).mono ?_
    rintro e w18 ⟨rfl, hb18⟩
    have hz18 := hb18.size
    have Hb18 := hide (Hb17.out.trans (hb18.mono (by omega)))
    clear hb18
    go_wp2_with fail
    go_ret
    exact ⟨rfl, Hb18.out⟩
  · have hn0' : 0 < n := by omega
    have hn0b : decide ((0 : Int) < (n : Int)) = true := by simp; omega
    have hn0c : decide (0 < n) = true := by simp; omega
    have hn0d : (0 : Int) < (n : Int) := by omega
    clear hn0
    obtain ⟨b, off, v, hA, hbB, hlk, c0, c1, c2, c3, c4⟩ := (Hv.out.below (Hb12.out.mono hB)).at_ hn0'
    subst hA
    simp only [Nat.zero_mul, Nat.add_zero] at c0 c1 c2 c3 c4
    have C0 := cell_regrown c0
    have C1 := cell_regrown c1
    have C2 := cell_regrown c2
    have C3 := cell_regrown c3
    have C4 := cell_regrown c4
    clear c0 c1 c2 c3 c4 hlk
    go_wp2_with fail
    refine wp_region_quiet_below (by kernel_rfl) (by kernel_rfl) ?_
    repeat (go_big_quiet_step (first | (go_at_call 22; exact Calls.regrown_of (size_any _ _ _ _ _ _)) | (go_at_call 23; exact Calls.regrown_of (rsize_any _ _ _ _ _ _))))
    refine wpQuiet_nil ?_
    intro w13 hw13
    obtain ⟨p, hp⟩ := hw13
    have hb13 : Below w12.heap.size w12 w13 := by rw [hp]; exact below_regrown w12 p.d p.os
    have hz13 := hb13.size
    have Hb13 := hide (Hb12.out.trans (hb13.mono (by omega)))
    clear hp hb13 C0 C1 C2 C3 C4
    go_wp2_with fail
    refine (part_any _ n c B l s env _ Hm.out (by omega) (Hv.out.below (Hb13.out.mono hB)) Hnm.out).mono ?_
    rintro e w14 ⟨rfl, hb14⟩
    have hz14 := hb14.size
    have Hb14 := hide (Hb13.out.trans (hb14.mono (by omega)))
    clear hb14
    go_wp2_with fail
    refine (rpart_any _ n c B l s env _ Hm.out hnc Hc.out (by omega) (Hv.out.below (Hb14.out.mono hB)) Hnm.out).mono ?_
    rintro e w15 ⟨rfl, hb15⟩
    have hz15 := hb15.size
    have Hb15 := hide (Hb14.out.trans (hb15.mono (by omega)))
    clear hb15
    go_wp2_with fail
    refine (find_any _ n c B l nm _ Hm.out (by omega) (Hv.out.below (Hb15.out.mono hB))).mono ?_
    rintro e w16 ⟨rfl, hb16⟩
    have hz16 := hb16.size
    have Hb16 := hide (Hb15.out.trans (hb16.mono (by omega)))
    clear hb16
    go_wp2_with fail
    refine (rfind_any _ n c B l nm _ Hm.out (by omega) (Hv.out.below (Hb16.out.mono hB))).mono ?_
    rintro e w17 ⟨rfl, hb17⟩
    have hz17 := hb17.size
    have Hb17 := hide (Hb16.out.trans (hb17.mono (by omega)))
    clear hb17
    go_wp2_with fail
    refine (awake_any _).mono ?_
    rintro e w18 ⟨rfl, hb18⟩
    have hz18 := hb18.size
    have Hb18 := hide (Hb17.out.trans (hb18.mono (by omega)))
    clear hb18
    go_wp2_with fail
    go_ret
    exact ⟨rfl, Hb18.out⟩

set_option maxRecDepth 100000 in
set_option maxHeartbeats 2000000 in
theorem forms_bad (A : Option Addr) (n c B : Nat) (l : List V) (s : Int) (Ai : Option Addr) (m ci : Nat) (xs : List Int) (iv x0 : Int) (env : Bool) (nm : ByteArray) (w : World) (hm : n ≤ maxLen) (hnc : n ≤ c) (hc : c ≤ maxLen) (hm2 : m ≤ maxLen) (hns : nm.size ≤ maxLen) (hB : B ≤ w.heap.size) (hv : RV w B A n l) (hi : RI w B Ai m xs) (hnm : ∀ v ∈ l, v.nm.size ≤ maxLen) (hh : heavyGo 0 l = 0) (hm20 : ¬ 20 < m) (hn100 : ¬ 100 < nm.size) (hg : goodS l s = false) :
    Calls Try.prog 3 #[.slice A n c, .int .i64 s, .slice Ai m ci, .int .i64 iv, .int .i64 x0, .bool env, .string nm] w fun e w' => e = .returned (.bool true) ∧ Below w.heap.size w w' := by
  have Hm := hide hm
  have Hc := hide hc
  have Hm2 := hide hm2
  have Hn := hide hv.1
  obtain ⟨hn10, hn100'⟩ := heavy_none l 0 hh
  have hn10' : n ≤ 10 := by rw [hv.1] at hn10; omega
  have Hv := hide hv; clear hv
  have Hi := hide hi; clear hi
  have Hnm := hide hnm; clear hnm
  have Hh := hide hh; clear hh
  have hm20b : decide ((20 : Int) < (m : Int)) = false := by simp; omega
  have hn100b : decide ((100 : Int) < (nm.size : Int)) = false := by simp; omega
  unfold maxLen at hm2 hns
  have hm20' : m ≤ 20 := by omega
  clear hm hc hn10 hn100'
  have Hg := hide (goodS_false hg)
  clear hg
  go_enter Try.func3, Try.ntmps3
  go_wp2_with fail
  refine (heavy_any A n c B l _ Hm.out hB Hv.out Hnm.out).mono ?_
  rintro e w1 ⟨rfl, hb1⟩
  rw [Hh.out]
  have Hb1 := hide hb1
  have hz1 := hb1.size
  clear hb1
  go_wp2_with fail
  refine (vals_bad A n c B l s _ Hm.out (by omega) (Hv.out.below (Hb1.out.mono hB)) Hnm.out Hg.out).mono ?_
  rintro e w2 ⟨rfl, hb2⟩
  have hz2 := hb2.size
  have Hb2 := hide (Hb1.out.trans (hb2.mono hz1))
  clear hb2
  go_wp2_with fail
  refine (rvals_bad A n c B l s _ Hm.out hnc Hc.out (by omega) (Hv.out.below (Hb2.out.mono hB)) Hnm.out Hg.out).mono ?_
  rintro e w3 ⟨rfl, hb3⟩
  have hz3 := hb3.size
  have Hb3 := hide (Hb2.out.trans (hb3.mono (by omega)))
  have HA3 := hide (ri_none w3 w3.heap.size none)
  have HD3 := hide (ri_none w3 w3.heap.size none)
  clear hb3
  go_wp2_with fail
  refine (state_any A n c B l Ai m ci xs _ Hm.out Hm2.out (by omega) (Hv.out.below (Hb3.out.mono hB)) (Hi.out.below (Hb3.out.mono hB)) Hnm.out).mono ?_
  rintro e w4 ⟨rfl, hb4⟩
  have hz4 := hb4.size
  have Hb4 := hide (Hb3.out.trans (hb4.mono (by omega)))
  have Hc4 := hide (hb4)
  clear hb4
  go_wp2_with fail
  refine (rstate_any A n c B l Ai m ci xs _ Hm.out hnc Hc.out Hm2.out (by omega) (Hv.out.below (Hb4.out.mono hB)) (Hi.out.below (Hb4.out.mono hB)) Hnm.out).mono ?_
  rintro e w5 ⟨rfl, hb5⟩
  have hz5 := hb5.size
  have Hb5 := hide (Hb4.out.trans (hb5.mono (by omega)))
  have Hc5 := hide (Hc4.out.trans (hb5.mono (by omega)))
  clear hb5
  go_wp2_with fail
  refine (with_any A n c B l s iv x0 _ Hm.out (by omega) (Hv.out.below (Hb5.out.mono hB)) Hnm.out).mono ?_
  rintro e w6 ⟨rfl, hb6⟩
  have hz6 := hb6.size
  have Hb6 := hide (Hb5.out.trans (hb6.mono (by omega)))
  have Hc6 := hide (Hc5.out.trans (hb6.mono (by omega)))
  clear hb6
  go_wp2_with fail
  refine (rwith_any A n c B l s iv x0 _ Hm.out hnc Hc.out (by omega) (Hv.out.below (Hb6.out.mono hB)) Hnm.out).mono ?_
  rintro e w7 ⟨rfl, hb7⟩
  have hz7 := hb7.size
  have Hb7 := hide (Hb6.out.trans (hb7.mono (by omega)))
  have Hc7 := hide (Hc6.out.trans (hb7.mono (by omega)))
  clear hb7
  go_wp2_with fail
  refine (may_any A n c B l _ Hm.out (by omega) (Hv.out.below (Hb7.out.mono hB)) Hnm.out).mono ?_
  rintro e w8 ⟨rfl, hb8⟩
  have hz8 := hb8.size
  have Hb8 := hide (Hb7.out.trans (hb8.mono (by omega)))
  have Hc8 := hide (Hc7.out.trans (hb8.mono (by omega)))
  clear hb8
  go_wp2_with fail
  refine (rmay_any A n c B l _ Hm.out hnc Hc.out (by omega) (Hv.out.below (Hb8.out.mono hB)) Hnm.out).mono ?_
  rintro e w9 ⟨rfl, hb9⟩
  have hz9 := hb9.size
  have Hb9 := hide (Hb8.out.trans (hb9.mono (by omega)))
  have Hc9 := hide (Hc8.out.trans (hb9.mono (by omega)))
  clear hb9
  go_wp2_with fail
  refine (total_any A n c B l _ Hm.out (by omega) (Hv.out.below (Hb9.out.mono hB))).mono ?_
  rintro e w10 ⟨rfl, hb10⟩
  have hz10 := hb10.size
  have Hb10 := hide (Hb9.out.trans (hb10.mono (by omega)))
  have Hc10 := hide (Hc9.out.trans (hb10.mono (by omega)))
  clear hb10
  go_wp2_with fail
  refine (rtotal_any A n c B l _ Hm.out hnc Hc.out (by omega) (Hv.out.below (Hb10.out.mono hB)) Hnm.out).mono ?_
  rintro e w11 ⟨rfl, hb11⟩
  have hz11 := hb11.size
  have Hb11 := hide (Hb10.out.trans (hb11.mono (by omega)))
  have Hc11 := hide (Hc10.out.trans (hb11.mono (by omega)))
  clear hb11
  go_wp2_with fail
  refine (same_any none none 0 0 0 w3.heap.size [] _ (by unfold maxLen; omega) (by omega) (HA3.out.below Hc11.out) (HD3.out.below Hc11.out)).mono ?_
  rintro e w12 ⟨rfl, hb12⟩
  have hz12 := hb12.size
  have Hb12 := hide (Hb11.out.trans (hb12.mono (by omega)))
  clear hb12
  clear HA3 HD3
  by_cases hn0 : n = 0
  · have hn0b : decide ((0 : Int) < (n : Int)) = false := by simp; omega
    have hn0c : decide (0 < n) = false := by simp; omega
    clear hn0
    go_wp2_with fail
    refine wp_region_quiet_below (by kernel_rfl) (by kernel_rfl) ?_
    repeat (go_big_quiet_step (fail))
    refine wpQuiet_nil ?_
    intro w13 hw13
    obtain ⟨p, hp⟩ := hw13
    have hb13 : Below w12.heap.size w12 w13 := by rw [hp]; exact below_regrown w12 p.d p.os
    have hz13 := hb13.size
    have Hb13 := hide (Hb12.out.trans (hb13.mono (by omega)))
    clear hp hb13
    go_wp2_with fail
    refine (part_any A n c B l s env _ Hm.out (by omega) (Hv.out.below (Hb13.out.mono hB)) Hnm.out).mono ?_
    rintro e w14 ⟨rfl, hb14⟩
    have hz14 := hb14.size
    have Hb14 := hide (Hb13.out.trans (hb14.mono (by omega)))
    clear hb14
    go_wp2_with fail
    refine (rpart_any A n c B l s env _ Hm.out hnc Hc.out (by omega) (Hv.out.below (Hb14.out.mono hB)) Hnm.out).mono ?_
    rintro e w15 ⟨rfl, hb15⟩
    have hz15 := hb15.size
    have Hb15 := hide (Hb14.out.trans (hb15.mono (by omega)))
    clear hb15
    go_wp2_with fail
    refine (find_any A n c B l nm _ Hm.out (by omega) (Hv.out.below (Hb15.out.mono hB))).mono ?_
    rintro e w16 ⟨rfl, hb16⟩
    have hz16 := hb16.size
    have Hb16 := hide (Hb15.out.trans (hb16.mono (by omega)))
    clear hb16
    go_wp2_with fail
    refine (rfind_any A n c B l nm _ Hm.out (by omega) (Hv.out.below (Hb16.out.mono hB))).mono ?_
    rintro e w17 ⟨rfl, hb17⟩
    have hz17 := hb17.size
    have Hb17 := hide (Hb16.out.trans (hb17.mono (by omega)))
    clear hb17
    go_wp2_with fail
    refine (awake_any _).mono ?_
    rintro e w18 ⟨rfl, hb18⟩
    have hz18 := hb18.size
    have Hb18 := hide (Hb17.out.trans (hb18.mono (by omega)))
    clear hb18
    go_wp2_with fail
    go_ret
    exact ⟨rfl, Hb18.out⟩
  · have hn0' : 0 < n := by omega
    have hn0b : decide ((0 : Int) < (n : Int)) = true := by simp; omega
    have hn0c : decide (0 < n) = true := by simp; omega
    have hn0d : (0 : Int) < (n : Int) := by omega
    clear hn0
    obtain ⟨b, off, v, hA, hbB, hlk, c0, c1, c2, c3, c4⟩ := (Hv.out.below (Hb12.out.mono hB)).at_ hn0'
    subst hA
    simp only [Nat.zero_mul, Nat.add_zero] at c0 c1 c2 c3 c4
    have C0 := cell_regrown c0
    have C1 := cell_regrown c1
    have C2 := cell_regrown c2
    have C3 := cell_regrown c3
    have C4 := cell_regrown c4
    clear c0 c1 c2 c3 c4 hlk
    go_wp2_with fail
    refine wp_region_quiet_below (by kernel_rfl) (by kernel_rfl) ?_
    repeat (go_big_quiet_step (first | (go_at_call 22; exact Calls.regrown_of (size_any _ _ _ _ _ _)) | (go_at_call 23; exact Calls.regrown_of (rsize_any _ _ _ _ _ _))))
    refine wpQuiet_nil ?_
    intro w13 hw13
    obtain ⟨p, hp⟩ := hw13
    have hb13 : Below w12.heap.size w12 w13 := by rw [hp]; exact below_regrown w12 p.d p.os
    have hz13 := hb13.size
    have Hb13 := hide (Hb12.out.trans (hb13.mono (by omega)))
    clear hp hb13 C0 C1 C2 C3 C4
    go_wp2_with fail
    refine (part_any _ n c B l s env _ Hm.out (by omega) (Hv.out.below (Hb13.out.mono hB)) Hnm.out).mono ?_
    rintro e w14 ⟨rfl, hb14⟩
    have hz14 := hb14.size
    have Hb14 := hide (Hb13.out.trans (hb14.mono (by omega)))
    clear hb14
    go_wp2_with fail
    refine (rpart_any _ n c B l s env _ Hm.out hnc Hc.out (by omega) (Hv.out.below (Hb14.out.mono hB)) Hnm.out).mono ?_
    rintro e w15 ⟨rfl, hb15⟩
    have hz15 := hb15.size
    have Hb15 := hide (Hb14.out.trans (hb15.mono (by omega)))
    clear hb15
    go_wp2_with fail
    refine (find_any _ n c B l nm _ Hm.out (by omega) (Hv.out.below (Hb15.out.mono hB))).mono ?_
    rintro e w16 ⟨rfl, hb16⟩
    have hz16 := hb16.size
    have Hb16 := hide (Hb15.out.trans (hb16.mono (by omega)))
    clear hb16
    go_wp2_with fail
    refine (rfind_any _ n c B l nm _ Hm.out (by omega) (Hv.out.below (Hb16.out.mono hB))).mono ?_
    rintro e w17 ⟨rfl, hb17⟩
    have hz17 := hb17.size
    have Hb17 := hide (Hb16.out.trans (hb17.mono (by omega)))
    clear hb17
    go_wp2_with fail
    refine (awake_any _).mono ?_
    rintro e w18 ⟨rfl, hb18⟩
    have hz18 := hb18.size
    have Hb18 := hide (Hb17.out.trans (hb18.mono (by omega)))
    clear hb18
    go_wp2_with fail
    go_ret
    exact ⟨rfl, Hb18.out⟩

set_option maxRecDepth 100000 in
set_option maxHeartbeats 1000000 in
theorem forms_any (A : Option Addr) (n c B : Nat) (l : List V) (s : Int) (Ai : Option Addr) (m ci : Nat) (xs : List Int) (iv x0 : Int) (env : Bool) (nm : ByteArray) (w : World) (hm : n ≤ maxLen) (hnc : n ≤ c) (hc : c ≤ maxLen) (hm2 : m ≤ maxLen) (hns : nm.size ≤ maxLen) (hB : B ≤ w.heap.size) (hv : RV w B A n l) (hi : RI w B Ai m xs) (hnm : ∀ v ∈ l, v.nm.size ≤ maxLen) :
    Calls Try.prog 3 #[.slice A n c, .int .i64 s, .slice Ai m ci, .int .i64 iv, .int .i64 x0, .bool env, .string nm] w fun e w' => e = .returned (.bool true) ∧ Below w.heap.size w w' := by
  by_cases hh : heavyGo 0 l = 0
  · by_cases hm20 : 20 < m
    · have hm20b : decide ((20 : Int) < (m : Int)) = true := by simp; omega
      have Hm := hide hm
      have Hv := hide hv; clear hv
      have Hnm := hide hnm; clear hnm
      have Hh := hide hh
      unfold maxLen at hm2
      clear hm hh hi hc
      go_enter Try.func3, Try.ntmps3
      go_wp2_with fail
      refine (heavy_any A n c B l _ Hm.out hB Hv.out Hnm.out).mono ?_
      rintro e w1 ⟨rfl, hb1⟩
      rw [Hh.out]
      have hz1 := hb1.size
      go_wp2_with fail
      refine (awake_any _).mono ?_
      rintro e w4 ⟨rfl, hb4⟩
      have Hb4 := hide (hb1.trans (hb4.mono (by omega)))
      clear hb4
      go_wp2_with fail
      go_ret
      exact ⟨rfl, Hb4.out⟩
    · by_cases hn100 : 100 < nm.size
      · have hm20b : decide ((20 : Int) < (m : Int)) = false := by simp; omega
        have hn100b : decide ((100 : Int) < (nm.size : Int)) = true := by simp; omega
        have Hm := hide hm
        have Hv := hide hv; clear hv
        have Hnm := hide hnm; clear hnm
        have Hh := hide hh
        unfold maxLen at hm2 hns
        clear hm hh hi hc
        go_enter Try.func3, Try.ntmps3
        go_wp2_with fail
        refine (heavy_any A n c B l _ Hm.out hB Hv.out Hnm.out).mono ?_
        rintro e w1 ⟨rfl, hb1⟩
        rw [Hh.out]
        have hz1 := hb1.size
        go_wp2_with fail
        refine (awake_any _).mono ?_
        rintro e w4 ⟨rfl, hb4⟩
        have Hb4 := hide (hb1.trans (hb4.mono (by omega)))
        clear hb4
        go_wp2_with fail
        go_ret
        exact ⟨rfl, Hb4.out⟩
      · cases hg : goodS l s
        · exact forms_bad A n c B l s Ai m ci xs iv x0 env nm w hm hnc hc hm2 hns hB hv hi hnm hh hm20 hn100 hg
        · exact forms_good A n c B l s Ai m ci xs iv x0 env nm w hm hnc hc hm2 hns hB hv hi hnm hh hm20 hn100 hg
  · have hh2 : 0 < heavyGo 0 l := by have := heavy_nonneg l 0; omega
    have hhb : decide (0 < heavyGo 0 l) = true := by simp [hh2]
    have Hm := hide hm
    have Hv := hide hv; clear hv
    have Hnm := hide hnm; clear hnm
    clear hm hh hi hc
    go_enter Try.func3, Try.ntmps3
    go_wp2_with fail
    refine (heavy_any A n c B l _ Hm.out hB Hv.out Hnm.out).mono ?_
    rintro e w1 ⟨rfl, hb1⟩
    have hz1 := hb1.size
    go_wp2_with fail
    refine (awake_any _).mono ?_
    rintro e w4 ⟨rfl, hb4⟩
    have Hb4 := hide (hb1.trans (hb4.mono (by omega)))
    clear hb4
    go_wp2_with fail
    go_ret
    exact ⟨rfl, Hb4.out⟩
end Go.Proofs.Ytjfomoehedhodaa
