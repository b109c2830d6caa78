/- The walk of the statement DomParts. -/
import Derived.Test.YtjfomoehedhodaaPartsMath
import Derived.Lib.QuietBelow
namespace Go.Proofs.Ytjfomoehedhodaa
open Go.RowKit Go.WideMaps Go.Maps
set_option linter.unusedSimpArgs false
set_option linter.unusedVariables false

theorem RI.cell_ {w : World} {B n k g : Nat} {xs : List Int} (h : RI w B (some ⟨g, 0, none⟩) n xs) (hk : k < n) : ∃ x, xs[k]? = some x ∧ w.cell? ⟨g, k, none⟩ = some (.int .i64 x) := by
  obtain ⟨b, off, x, e, _, hx, hc⟩ := h.at_ hk
  injection e with e
  injection e with e1 e2
  subst e1; subst e2
  rw [Nat.zero_add] at hc
  exact ⟨x, hx, hc⟩

set_option maxRecDepth 100000 in
set_option maxHeartbeats 2000000 in
theorem parts_ok_any (A : Option Addr) (n c B : Nat) (l : List V) (s iv x0 : Int) (w : World) (hm : n ≤ maxLen) (hB : B ≤ w.heap.size) (hv : RV w B A n l) (hnm : ∀ v ∈ l, v.nm.size ≤ maxLen) (hh : heavyGo 0 l = 0) (hM : mayL l = 0) :
    Calls Try.prog 5 #[.slice A n c, .int .i64 s, .int .i64 iv, .int .i64 x0] w fun e w' => e = .returned (.bool true) ∧ Below w.heap.size w w' := by
  have Hm := hide hm
  have ht := (mayL_zero hM).2
  have hn6 : n ≤ 6 := by have := totL_len ht; rw [hv.1] at this; exact this
  have Hn := hide hv.1
  have Hv := hide hv; clear hv
  have Hnm := hide hnm; clear hnm
  have Hh := hide hh; clear hh
  have HM := hide hM
  have Hall := hide (mayL_all hM)
  have Ht := hide ht
  obtain ⟨tb0, tb1⟩ := totL_bd l
  have tb2 : 1 ≤ totL l := by have := Ht.out; omega
  have tb2b : decide (totL l < 1) = false := by simp; omega
  clear hm hM ht
  go_enter Try.func5, Try.ntmps5
  go_wp2_with fail
  refine (heavy_any A n c B l _ Hm.out hB Hv.out Hnm.out).mono ?_
  rintro e w1 ⟨rfl, hb1⟩
  rw [Hh.out]
  have Hb1 := hide hb1
  have hz1 := hb1.size
  clear hb1
  go_wp2_with fail
  refine (may_any A n c B l _ Hm.out (by omega) (Hv.out.below (Hb1.out.mono hB)) Hnm.out).mono ?_
  rintro e w2 ⟨rfl, hb2⟩
  rw [HM.out]
  have hz2 := hb2.size
  have Hb2 := hide (Hb1.out.trans (hb2.mono hz1))
  clear hb2
  go_wp2_with fail
  refine (total_any A n c B l _ Hm.out (by omega) (Hv.out.below (Hb2.out.mono hB))).mono ?_
  rintro e w3 ⟨rfl, hb3⟩
  have hz3 := hb3.size
  have Hb3 := hide (Hb2.out.trans (hb3.mono (by omega)))
  clear hb3
  go_wp2_with fail
  refine (total_any A n c B l _ Hm.out (by omega) (Hv.out.below (Hb3.out.mono hB))).mono ?_
  rintro e w4 ⟨rfl, hb4⟩
  have hz4 := hb4.size
  have Hb4 := hide (Hb3.out.trans (hb4.mono (by omega)))
  clear hb4
  go_wp2_with fail
  obtain ⟨m0, m1⟩ := mod_bd s (totL l) tb2 tb1
  generalize wrap64 ((IntKind.u64.wrap s).tmod (totL l)) = m at *
  refine (vals_good A n c B l m _ (by omega) (Hv.out.below (Hb4.out.mono hB)) Hnm.out HM.out m0 m1).mono ?_
  rintro e w5 ⟨g1, rfl, hg1, hrow1, hb5⟩
  have hz5 := hb5.size
  have Hb5 := hide (Hb4.out.trans (hb5.mono (by omega)))
  have HA5 := hide (row_ri hrow1 ((valsL_length l m).trans Hn.out))
  clear hb5 hrow1
  go_wp2_with fail
  refine (part_any A n c B l m true _ Hm.out (by omega) (Hv.out.below (Hb5.out.mono hB)) Hnm.out).mono ?_
  rintro e w6 ⟨rfl, hb6⟩
  have hz6 := hb6.size
  have Hb6 := hide (Hb5.out.trans (hb6.mono (by omega)))
  have HA6 := hide (HA5.out.below hb6)
  clear hb6 HA5
  go_wp2_with fail
  refine (part_any A n c B l m false _ Hm.out (by omega) (Hv.out.below (Hb6.out.mono hB)) Hnm.out).mono ?_
  rintro e w7 ⟨rfl, hb7⟩
  have hz7 := hb7.size
  have Hb7 := hide (Hb6.out.trans (hb7.mono (by omega)))
  have HA7 := hide ((HA6.out.below (hb7.mono (by omega))))
  clear hb7 HA6
  obtain ⟨p0, p1, p2⟩ := part_good true HM.out m0 m1
  obtain ⟨q0, q1, q2⟩ := part_good false HM.out m0 m1
  have Hid1 := hide (part_idem true HM.out m0 m1)
  have Hsw := hide (part_swap HM.out m0 m1)
  generalize partL l m true = pe at *
  generalize partL l m false = ps at *
  have Hp2 := hide p2
  have Hq2 := hide q2
  clear p2 q2
  go_wp2_with fail
  refine (vals_good A n c B l pe _ (by omega) (Hv.out.below (Hb7.out.mono hB)) Hnm.out HM.out p0 p1).mono ?_
  rintro e w8 ⟨g2, rfl, hg2, hrow2, hb8⟩
  rw [Hp2.out] at hrow2
  have hz8 := hb8.size
  have Hb8 := hide (Hb7.out.trans (hb8.mono (by omega)))
  have HA8 := hide ((HA7.out.below (hb8.mono (by omega))))
  have HP8 := hide (row_ri hrow2 ((pickL_length true l _ (valsL_length l m)).trans Hn.out))
  clear hb8 HA7 hrow2
  go_wp2_with fail
  refine (vals_good A n c B l ps _ (by omega) (Hv.out.below (Hb8.out.mono hB)) Hnm.out HM.out q0 q1).mono ?_
  rintro e w9 ⟨g3, rfl, hg3, hrow3, hb9⟩
  rw [Hq2.out] at hrow3
  have hz9 := hb9.size
  have Hb9 := hide (Hb8.out.trans (hb9.mono (by omega)))
  have HA9 := hide ((HA8.out.below (hb9.mono (by omega))))
  have HP9 := hide (HP8.out.below hb9)
  have HQ9 := hide (row_ri hrow3 ((pickL_length false l _ (valsL_length l m)).trans Hn.out))
  clear hb9 HA8 HP8 hrow3
  go_wp2_with fail
  refine (part_any A n c B l pe true _ Hm.out (by omega) (Hv.out.below (Hb9.out.mono hB)) Hnm.out).mono ?_
  rintro e w10 ⟨rfl, hb10⟩
  rw [Hid1.out]
  have hz10 := hb10.size
  have Hc10 := hide hb10
  clear hb10
  go_wp2_with fail
  refine (part_any A n c B l pe false _ Hm.out (by omega) (Hv.out.below ((Hb9.out.trans (Hc10.out.mono (by omega))).mono hB)) Hnm.out).mono ?_
  rintro e w11 ⟨rfl, hb11⟩
  rw [Hsw.out]
  have hz11 := hb11.size
  have Hc11 := hide (Hc10.out.trans (hb11.mono hz10))
  clear hb11 Hc10
  go_wp2_with fail
  refine (part_any A n c B l ps true _ Hm.out (by omega) (Hv.out.below ((Hb9.out.trans (Hc11.out.mono (by omega))).mono hB)) Hnm.out).mono ?_
  rintro e w12 ⟨rfl, hb12⟩
  have hz12 := hb12.size
  have Hc12 := hide (Hc11.out.trans (hb12.mono (by omega)))
  clear hb12 Hc11 Hid1 Hsw Hp2 Hq2
  go_wp2_with fail
  have hc12 := Hc12.out
  go_loopw [118] (fun i wr => ∃ (k : Nat), k ≤ n ∧ i = .int .i64 k ∧ Below w9.heap.size w9 wr) (fun i _ => n - (intOf i).toNat)
  case atStart => exact ⟨0, Nat.zero_le _, rfl, hc12⟩
  case round =>
    obtain ⟨k, hk, rfl, hb⟩ := hrel
    have hsz := hb.size
    have hbw : Below w.heap.size w wr := Hb9.out.trans (hb.mono (by omega))
    by_cases hlt : k < n
    · have hlt' : ((k : Int) < (n : Int)) := by omega
      obtain ⟨b, off, v, rfl, hbB, hlk, c0, c1, c2, c3, c4⟩ := (Hv.out.below (hbw.mono hB)).at_ hlt
      obtain ⟨x, hx, ca⟩ := (HA9.out.below (hb.mono (by omega))).cell_ hlt
      obtain ⟨y, hy, cb⟩ := (HP9.out.below (hb.mono (by omega))).cell_ hlt
      obtain ⟨z, hz, cc⟩ := (HQ9.out.below hb).cell_ hlt
      rw [pickL_at true l _ k v x hlk hx] at hy
      rw [pickL_at false l _ k v x hlk hx] at hz
      have ga : g1 < wr.heap.size := by obtain ⟨_, _, e1, e2, _⟩ := HA9.out.2 (by omega); injection e1 with e1; injection e1 with e1; omega
      have gb : g2 < wr.heap.size := by obtain ⟨_, _, e1, e2, _⟩ := HP9.out.2 (by omega); injection e1 with e1; injection e1 with e1; omega
      have gc : g3 < wr.heap.size := by obtain ⟨_, _, e1, e2, _⟩ := HQ9.out.2 (by omega); injection e1 with e1; injection e1 with e1; omega
      have ca' := (World.cell?_alloc_lt wr (.cells #[.string v.nm, .bool v.env, .int .i64 v.srt, .int .i64 v.lo, .int .i64 v.hi] 36) ⟨g1, k, none⟩ ga).trans ca
      have cb' := (World.cell?_alloc_lt wr (.cells #[.string v.nm, .bool v.env, .int .i64 v.srt, .int .i64 v.lo, .int .i64 v.hi] 36) ⟨g2, k, none⟩ gb).trans cb
      have cc' := (World.cell?_alloc_lt wr (.cells #[.string v.nm, .bool v.env, .int .i64 v.srt, .int .i64 v.lo, .int .i64 v.hi] 36) ⟨g3, k, none⟩ gc).trans cc
      have hbx : Below w9.heap.size w9 (wr.alloc (.cells #[.string v.nm, .bool v.env, .int .i64 v.srt, .int .i64 v.lo, .int .i64 v.hi] 36)) := hb.alloc hsz _
      obtain ⟨vnm, venv, vs, vlo, vhi⟩ := v
      cases venv
      · simp at hy hz
        subst hy; subst hz
        clear hlk hx ca cb cc
        go_wp2_with fail
        clear c0 c1 c2 c3 c4
        go_quiet (fail)
        go_wp2_with fail
        go_roundw
        case rel => exact ⟨k + 1, by omega, by go_num, below_drewN hbx _⟩
        case measure => simp [intOf]; omega
      · simp at hy hz
        subst hy; subst hz
        clear hlk hx ca cb cc
        go_wp2_with fail
        clear c0 c1 c2 c3 c4
        go_quiet (fail)
        go_wp2_with fail
        go_roundw
        case rel => exact ⟨k + 1, by omega, by go_num, below_drewN hbx _⟩
        case measure => simp [intOf]; omega
    · have hlt' : ¬ ((k : Int) < (n : Int)) := by omega
      have Hbw := hide hbw
      have Hgs : Hid (goodS l m = true) := hide (by simp [goodS, HM.out, m0, m1])
      go_wp2_with fail
      refine (with_any A n c B l m iv x0 _ Hm.out (by omega) (Hv.out.below (hbw.mono hB)) Hnm.out).mono ?_
      rintro e w13 ⟨rfl, hb13⟩
      have hz13 := hb13.size
      have Hc13 := hide (hb.trans (hb13.mono hsz))
      have Hb13 := hide (hbw.trans (hb13.mono (by omega)))
      clear hb13 hbw hb
      cases hok : withOk l m iv x0
      · rw [show withV l m iv x0 = 0 from by unfold withV; rw [hok]; rfl]
        have hat : hasAt l iv x0 = false := by have := hok; unfold withOk at this; rw [Hgs.out, Bool.true_and] at this; exact this
        clear hok
        have hz0b : ((0 : Int) == 0) = true := rfl
        by_cases hi0 : iv < 0
        · have hi0b : decide (iv < 0) = true := by simp [hi0]
          clear hat
          go_wp2_with fail
          refine wp_region_quiet_below (by kernel_rfl) (by kernel_rfl) ?_
          repeat (go_big_quiet_step ((go_at_call 10; exact Calls.regrown_of (awake_any _))))
          refine wpQuiet_nil ?_
          intro w14 hw14
          obtain ⟨p, rfl⟩ := hw14
          have hfin := Hb13.out.trans ((below_regrown w13 p.d p.os).mono (by omega))
          go_wp2_with fail
          go_ret
          exact ⟨rfl, hfin⟩
        · have hi0b : decide (iv < 0) = false := by simp; omega
          by_cases hin : (n : Int) ≤ iv
          · have hinb : decide ((n : Int) ≤ iv) = true := by simp [hin]
            clear hat
            go_wp2_with fail
            refine wp_region_quiet_below (by kernel_rfl) (by kernel_rfl) ?_
            repeat (go_big_quiet_step ((go_at_call 10; exact Calls.regrown_of (awake_any _))))
            refine wpQuiet_nil ?_
            intro w14 hw14
            obtain ⟨p, rfl⟩ := hw14
            have hfin := Hb13.out.trans ((below_regrown w13 p.d p.os).mono (by omega))
            go_wp2_with fail
            go_ret
            exact ⟨rfl, hfin⟩
          · have hinb : decide ((n : Int) ≤ iv) = false := by simp; omega
            obtain ⟨q, rfl⟩ := Int.eq_ofNat_of_zero_le (show 0 ≤ iv by omega)
            have hq : q < n := by omega
            have hinb2 : decide (n ≤ q) = false := by simp; omega
            have hi0b2 : decide ((q : Int) < 0) = false := by simp
            have hq' : (q : Int) < (n : Int) := by omega
            have hq0 : (0 : Int) ≤ (q : Int) := by omega
            obtain ⟨b, off, v, rfl, hbB, hlk, c0, c1, c2, c3, c4⟩ := (Hv.out.below (Hb13.out.mono hB)).at_ hq
            have hno : hasB v.srt v.lo v.hi x0 = false := by simpa [hasAt, hlk, show ¬ (q : Int) < 0 by omega] using hat
            have hmay := Hall.out v (List.mem_of_getElem? hlk)
            have sz1 := size_pos hmay
            have sz2 := (size_bd v.srt v.lo v.hi).2
            obtain ⟨lo1, lo2⟩ := may_lo hmay
            have hno2 : ¬ (v.lo ≤ x0 ∧ x0 < v.lo + sizeOfV v.srt v.lo v.hi) := by simpa [hasB] using hno
            have C0 := cell_regrown c0
            have C1 := cell_regrown c1
            have C2 := cell_regrown c2
            have C3 := cell_regrown c3
            have C4 := cell_regrown c4
            clear hat hno hlk hmay c0 c1 c2 c3 c4
            by_cases hx : x0 < v.lo
            · have hxb : decide (x0 < v.lo) = true := by simp [hx]
              clear hno2
              go_wp2_with fail
              refine wp_region_quiet_below (by kernel_rfl) (by kernel_rfl) ?_
              repeat (go_big_quiet_step ((go_at_call 10; exact Calls.regrown_of (awake_any _))))
              refine wpQuiet_nil ?_
              intro w14 hw14
              obtain ⟨p, rfl⟩ := hw14
              have hfin := Hb13.out.trans ((below_regrown w13 p.d p.os).mono (by omega))
              go_wp2_with fail
              go_ret
              exact ⟨rfl, hfin⟩
            · have hxb : decide (x0 < v.lo) = false := by simp; omega
              have hyb : decide (v.lo + sizeOfV v.srt v.lo v.hi ≤ x0) = true := by simp; omega
              have hwr : IntKind.i64.wrap (v.lo + sizeOfV v.srt v.lo v.hi) = v.lo + sizeOfV v.srt v.lo v.hi := IntWalk.i64_in _ (by omega)
              clear hno2
              go_wp2_with fail
              refine wp_region_quiet_below (by kernel_rfl) (by kernel_rfl) ?_
              repeat (go_big_quiet_step (first | (go_at_call 10; exact Calls.regrown_of (awake_any _)) | (go_at_call 22; exact Calls.regrown_of (size_any _ _ _ _ _ _))))
              refine wpQuiet_nil ?_
              intro w14 hw14
              obtain ⟨p, rfl⟩ := hw14
              have hfin := Hb13.out.trans ((below_regrown w13 p.d p.os).mono (by omega))
              clear hwr
              go_wp2_with fail
              go_ret
              exact ⟨rfl, hfin⟩
      · obtain ⟨t0, t1, t2, i0, i1, _⟩ := with_good hok
        have hi0b : decide (iv < 0) = false := by simp; omega
        have hinb : decide ((n : Int) ≤ iv) = false := by rw [Hn.out] at i1; simp; omega
        obtain ⟨q, rfl⟩ := Int.eq_ofNat_of_zero_le i0
        have hq : q < n := by rw [Hn.out] at i1; omega
        have hinb2 : decide (n ≤ q) = false := by simp; omega
        have hi0b2 : decide ((q : Int) < 0) = false := by simp
        generalize withV l m q x0 = tv at *
        have Ht2 := hide t2
        clear hok t2 i1
        go_wp2_with fail
        refine (vals_good A n c B l tv _ (by omega) (Hv.out.below (Hb13.out.mono hB)) Hnm.out HM.out t0 t1).mono ?_
        rintro e w14 ⟨g4, rfl, hg4, hrow4, hb14⟩
        rw [Ht2.out] at hrow4
        have hz14 := hb14.size
        have Hb14 := hide (Hb13.out.trans (hb14.mono (by omega)))
        have HA14 := hide (HA9.out.below ((Hc13.out.trans (hb14.mono (by omega))).mono (by omega)))
        have HD14 := hide (row_ri hrow4 (by simp [valsL_length, Hn.out]))
        clear hb14 hrow4
        go_wp2_with fail
        clear hinb2 hi0b2 hi0b hinb
        go_loopw [247] (fun i wr => ∃ (j : Nat), j ≤ n ∧ i = .int .i64 j ∧ Below w14.heap.size w14 wr) (fun i _ => n - (intOf i).toNat)
        case atStart => exact ⟨0, Nat.zero_le _, rfl, Below.refl _ _⟩
        case round =>
          obtain ⟨j, hj, rfl, hbj⟩ := hrel
          have hszj := hbj.size
          by_cases hlt2 : j < n
          · have hlt2' : ((j : Int) < (n : Int)) := by omega
            obtain ⟨y, hy, ca⟩ := (HA14.out.below (hbj.mono (by omega))).cell_ hlt2
            obtain ⟨z, hz, cd⟩ := (HD14.out.below hbj).cell_ hlt2
            by_cases hjq : j = q
            · subst hjq
              have hzx : z = x0 := by
                have h1 : ((valsL l m).set j x0)[j]? = some x0 := by rw [List.getElem?_set_self (by rw [valsL_length, Hn.out]; exact hlt2)]
                have h2 : ((valsL l m).set ((j : Int).toNat) x0)[j]? = some z := hz
                rw [Int.toNat_natCast, h1] at h2; injection h2 with h2; exact h2.symm
              subst hzx
              clear hy hz
              go_wp2_with fail
              go_quiet (fail)
              go_wp2_with fail
              go_roundw
              case rel => exact ⟨j + 1, by omega, by go_num, below_drewN hbj _⟩
              case measure => simp [intOf]; omega
            · have hzy : z = y := by
                have h2 : ((valsL l m).set ((q : Int).toNat) x0)[j]? = some z := hz
                rw [Int.toNat_natCast, List.getElem?_set_ne (fun e => hjq e.symm), hy] at h2; injection h2 with h2; exact h2.symm
              subst hzy
              have e1 : ((j : Int) == (q : Int)) = false := by rw [beq_eq_false_iff_ne]; omega
              have e2 : ((j : Int) != (q : Int)) = true := by rw [bne_iff_ne]; omega
              have e3 : (j == q) = false := by rw [beq_eq_false_iff_ne]; exact hjq
              have e4 : (j != q) = true := by rw [bne_iff_ne]; exact hjq
              clear hy hz
              go_wp2_with fail
              go_quiet (fail)
              go_wp2_with fail
              go_roundw
              case rel => exact ⟨j + 1, by omega, by go_num, below_drewN hbj _⟩
              case measure => simp [intOf]; omega
          · have hlt2' : ¬ ((j : Int) < (n : Int)) := by omega
            have hbw14 := Hb14.out.trans (hbj.mono (by omega))
            go_wp2_with fail
            refine (awake_any _).mono ?_
            rintro e w15 ⟨rfl, hb15⟩
            have hfin := hbw14.trans (hb15.mono (by omega))
            go_wp2_with fail
            go_ret
            exact ⟨rfl, hfin⟩

set_option maxRecDepth 100000 in
set_option maxHeartbeats 1000000 in
theorem parts_any (A : Option Addr) (n c B : Nat) (l : List V) (s iv x0 : Int) (w : World) (hm : n ≤ maxLen) (hB : B ≤ w.heap.size) (hv : RV w B A n l) (hnm : ∀ v ∈ l, v.nm.size ≤ maxLen) :
    Calls Try.prog 5 #[.slice A n c, .int .i64 s, .int .i64 iv, .int .i64 x0] w fun e w' => e = .returned (.bool true) ∧ Below w.heap.size w w' := by
  by_cases hh : heavyGo 0 l = 0
  · by_cases hM : mayL l = 0
    · exact parts_ok_any A n c B l s iv x0 w hm hB hv hnm hh hM
    · have hMb : (mayL l != 0) = true := by simp [hM]
      have Hm := hide hm
      have Hv := hide hv; clear hv
      have Hnm := hide hnm; clear hnm
      have Hh := hide hh
      clear hm hM hh
      go_enter Try.func5, Try.ntmps5
      go_wp2_with fail
      refine (heavy_any A n c B l _ Hm.out hB Hv.out Hnm.out).mono ?_
      rintro e w1 ⟨rfl, hb1⟩
      rw [Hh.out]
      have Hb1 := hide hb1
      have hz1 := hb1.size
      clear hb1
      go_wp2_with fail
      refine (may_any A n c B l _ Hm.out (by omega) (Hv.out.below (Hb1.out.mono hB)) Hnm.out).mono ?_
      rintro e w2 ⟨rfl, hb2⟩
      have hz2 := hb2.size
      have Hb2 := hide (Hb1.out.trans (hb2.mono hz1))
      clear hb2
      go_wp2_with fail
      refine (awake_any _).mono ?_
      rintro e w4 ⟨rfl, hb4⟩
      have Hb4 := hide (Hb2.out.trans (hb4.mono (by omega)))
      clear hb4
      go_wp2_with fail
      go_ret
      exact ⟨rfl, Hb4.out⟩
  · have hh2 : 0 < heavyGo 0 l := by have := heavy_nonneg l 0; omega
    have hhb : decide (0 < heavyGo 0 l) = true := by simp [hh2]
    have Hm := hide hm
    have Hv := hide hv; clear hv
    have Hnm := hide hnm; clear hnm
    clear hm hh
    go_enter Try.func5, Try.ntmps5
    go_wp2_with fail
    refine (heavy_any A n c B l _ Hm.out hB Hv.out Hnm.out).mono ?_
    rintro e w1 ⟨rfl, hb1⟩
    have Hb1 := hide hb1
    have hz1 := hb1.size
    clear hb1
    go_wp2_with fail
    refine (awake_any _).mono ?_
    rintro e w4 ⟨rfl, hb4⟩
    have Hb4 := hide (Hb1.out.trans (hb4.mono (by omega)))
    clear hb4
    go_wp2_with fail
    go_ret
    exact ⟨rfl, Hb4.out⟩
end Go.Proofs.Ytjfomoehedhodaa
