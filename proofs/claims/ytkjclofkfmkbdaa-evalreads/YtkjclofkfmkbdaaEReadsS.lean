/- The walk of the statement EvalReads. -/
import Derived.Test.YtkjclofkfmkbdaaMNat
namespace Go.Proofs.Ytkjclofkfmkbdaa
open Go.RowKit Ex
open Go.Sort (grow)
set_option linter.unusedSimpArgs false
set_option linter.unusedVariables false

theorem keep2 {W w' : World} {p q : Addr} {x y : Value} (h1 : W.cell? p = some x) (h2 : W.cell? q = some y) (hp : p.block < W.heap.size) (hq : q.block < W.heap.size) (hs : Hid (Below W.heap.size W w')) : w'.cell? p = some x ∧ w'.cell? q = some y :=
  ⟨(hs.out.cell hp).trans h1, (hs.out.cell hq).trans h2⟩
set_option maxRecDepth 100000 in
set_option maxHeartbeats 8000000 in
theorem ereads_any (B : Nat) (Av : Option Addr) (nv cv : Nat) (lv : List Dom.V) (now next vv : Int) (w : World) (ho : OkV nv cv lv) (hB : B ≤ w.heap.size) (hrv : Dom.RV w B Av nv lv) :
    Calls Try.prog 7 #[.slice Av nv cv, .int .i64 now, .int .i64 next, .int .i64 vv] w fun e w' => e = .returned (.bool true) ∧ Below w.heap.size w w' := by
  have Hrv := hide hrv
  have Hnl := hide hrv.1
  have Ho := hide ho
  have hnv := ho.1
  unfold maxLen at hnv
  clear hrv ho
  obtain ⟨h1a, h1b⟩ := vheavy_bd lv
  obtain ⟨tb0, tb1⟩ := Dom.totL_bd lv
  go_enter Try.func7, Try.ntmps7
  go_wp2_with fail
  refine (Dom.heavy_any Av nv cv B lv w Ho.out.1 hB Hrv.out Ho.out.2.2.2).mono ?_
  rintro e w1 ⟨rfl, hb1⟩
  have hz1 := hb1.size
  have Hb1 := hide hb1
  have Hrv1 := hide (Hrv.out.below (hb1.mono hB))
  clear hb1 Hrv
  by_cases hh : 0 < Dom.heavyGo 0 lv
  · have hhb : decide (0 < Dom.heavyGo 0 lv) = true := by simp [hh]
    go_wp2_with fail
    refine (awake_any _).mono ?_
    rintro e wz ⟨rfl, hbz⟩
    have Hf := hide (Hb1.out.trans (hbz.mono (by omega)))
    clear hbz
    go_wp2_with fail
    go_ret
    exact ⟨rfl, Hf.out⟩
  · have hhb : decide (0 < Dom.heavyGo 0 lv) = false := by simp; omega
    go_wp2_with fail
    refine (Dom.rmay_any Av nv cv B lv w1 Ho.out.1 Ho.out.2.1 Ho.out.2.2.1 (by omega) Hrv1.out Ho.out.2.2.2).mono ?_
    rintro e w2 ⟨rfl, hb2⟩
    have hz2 := hb2.size
    have Hb2 := hide (Hb1.out.trans (hb2.mono (by omega)))
    have Hrv2 := hide (Hrv1.out.below (hb2.mono (by omega)))
    clear hb2 Hrv1 Hb1 h1a h1b hh
    by_cases hmv : Dom.mayL lv = 0
    · have hmvb : (Dom.mayL lv != 0) = false := by simp [hmv]
      have Hmv := hide hmv
      have htz := (Dom.mayL_zero hmv).2
      have hlen6 : nv ≤ 6 := by have := Dom.totL_len htz; rw [Hnl.out] at this; exact this
      clear hmv
      by_cases hn0 : nv = 0
      · have hnb : ((nv : Int) == 0) = true := by simp [hn0]
        have hnc : (nv == 0) = true := by simp [hn0]
        clear hn0
        go_wp2_with fail
        refine (awake_any _).mono ?_
        rintro e wz ⟨rfl, hbz⟩
        have Hf := hide (Hb2.out.trans (hbz.mono (by omega)))
        clear hbz
        go_wp2_with fail
        go_ret
        exact ⟨rfl, Hf.out⟩
      · have hnb : ((nv : Int) == 0) = false := by simp; omega
        have hnc : (nv == 0) = false := by simp [hn0]
        go_wp2_with fail
        refine (Dom.total_any Av nv cv B lv w2 Ho.out.1 (by omega) Hrv2.out).mono ?_
        rintro e w3 ⟨rfl, hb3⟩
        have hz3 := hb3.size
        have Hb3 := hide (Hb2.out.trans (hb3.mono (by omega)))
        have Hrv3 := hide (Hrv2.out.below (hb3.mono (by omega)))
        clear hb3 Hrv2 Hb2
        have ht1 : 1 ≤ Dom.totL lv := by omega
        have htb : decide (Dom.totL lv < 1) = false := by simp; omega
        obtain ⟨m1, m1a, m1b, hm1⟩ := mod_st now (Dom.totL lv) ht1 tb1
        obtain ⟨m2, m2a, m2b, hm2⟩ := mod_st next (Dom.totL lv) ht1 tb1
        obtain ⟨v, hv, hm3⟩ := mod_len vv nv (by omega) hlen6
        have hwT : IntKind.u64.wrap (Dom.totL lv) = Dom.totL lv := by rw [IntKind.wrap_u64]; omega
        have hnz : ¬ Dom.totL lv = 0 := by omega
        have hnzb : (Dom.totL lv == 0) = false := by simp [hnz]
        have hwN : IntKind.u64.wrap (nv : Int) = (nv : Int) := by rw [IntKind.wrap_u64]; omega
        have hnn : ¬ (nv : Int) = 0 := by omega
        have hnnb : ((nv : Int) == 0) = false := by simp; omega
        go_wp2_with fail
        go_quiet (fail)
        clear hm1 hm2 hm3 hwT hnz hnzb hwN hnn hnnb htz hnb hnc htb
        have Hb4 := hide (below_drewN Hb3.out nq)
        have Hrv4 := hide (Hrv3.out.below (below_drewN (Below.refl B w3) nq))
        have hzq : (w3.drewN nq).heap.size = w3.heap.size := rfl
        clear Hb3 Hrv3
        generalize w3.drewN nq = w4 at *
        obtain ⟨u, hu⟩ := at_some (l := lv) (v := v) (by rw [Hnl.out]; exact hv)
        have Hu := hide hu
        have hv6 : v < 6 := by omega
        clear hu
        go_wp2_with fail
        refine (Dom.vals_good Av nv cv B lv m1 w4 (by omega) Hrv4.out Ho.out.2.2.2 Hmv.out m1a m1b).mono ?_
        rintro e w5 ⟨ga, rfl, hga, hra, hb5⟩
        have hz5 := hb5.size
        have hga2 := hra.lt
        have Hb5 := hide (Hb4.out.trans (hb5.mono (by have := Hb4.out.size; omega)))
        have Hrv5 := hide (Hrv4.out.below (hb5.mono (by omega)))
        have Hra := hide hra
        clear hb5 Hb4 Hrv4 hra
        go_wp2_with fail
        refine (Dom.vals_good Av nv cv B lv m2 w5 (by omega) Hrv5.out Ho.out.2.2.2 Hmv.out m2a m2b).mono ?_
        rintro e w6 ⟨gb, rfl, hgb, hrb, hb6⟩
        have hz6 := hb6.size
        have hgb2 := hrb.lt
        have Hb6 := hide (Hb5.out.trans (hb6.mono (by have := Hb5.out.size; omega)))
        have Hrv6 := hide (Hrv5.out.below (hb6.mono (by omega)))
        obtain ⟨x, hx⟩ : ∃ x, (Dom.valsL lv m1).getD v 0 = x := ⟨_, rfl⟩
        obtain ⟨y, hy⟩ : ∃ y, (Dom.valsL lv m2).getD v 0 = y := ⟨_, rfl⟩
        have ca : w6.cell? ⟨ga, v, none⟩ = some (.int .i64 x) := by
          rw [← hx]; exact (hb6.cell (p := ⟨ga, v, none⟩) (by exact hga2)).trans (Hra.out.cell (i := v) hv)
        have cb : w6.cell? ⟨gb, v, none⟩ = some (.int .i64 y) := by
          rw [← hy]; exact hrb.cell (i := v) hv
        have Hx := hide hx
        have Hy := hide hy
        clear hx hy
        have Ca := hide ca
        have Cb := hide cb
        clear hb6 Hb5 Hrv5 Hra hrb ca cb
        have hnb : ((nv : Int) != (nv : Int)) = false := by simp
        go_wp2_with fail
        refine (dval_any B Av nv cv lv 1 3 (v : Int) none 0 0 (lfT 3 v) m1 m2 w6 Ho.out.1 Ho.out.2.1 Ho.out.2.2.1 (by omega) (RE.leaf _ _ _ _ _) Hrv6.out Ho.out.2.2.2).mono ?_
        rintro e w7 ⟨rfl, hb7⟩
        rw [now_val Hmv.out hv6 Hu.out m1a m1b m2a m2b, Hx.out]
        have hz7 := hb7.size
        have Hb7 := hide (Hb6.out.trans (hb7.mono (by have := Hb6.out.size; omega)))
        have Hrv7 := hide (Hrv6.out.below (hb7.mono (by omega)))
        have Ca7 := hide ((hb7.cell (p := ⟨ga, v, none⟩) (by show ga < w6.heap.size; omega)).trans Ca.out)
        have Cb7 := hide ((hb7.cell (p := ⟨gb, v, none⟩) (by show gb < w6.heap.size; omega)).trans Cb.out)
        clear hb7 Hb6 Hrv6 Ca Cb
        simp only
        go_wp2_with fail
        refine (dval_any B Av nv cv lv 1 4 (v : Int) none 0 0 (lfT 4 v) m1 m2 w7 Ho.out.1 Ho.out.2.1 Ho.out.2.2.1 (by omega) (RE.leaf _ _ _ _ _) Hrv7.out Ho.out.2.2.2).mono ?_
        rintro e w8 ⟨rfl, hb8⟩
        rw [next_val Hmv.out hv6 Hu.out m1a m1b m2a m2b, Hy.out]
        have hz8 := hb8.size
        have Hb8 := hide (Hb7.out.trans (hb8.mono (by have := Hb7.out.size; omega)))
        have Hrv8 := hide (Hrv7.out.below (hb8.mono (by omega)))
        have Ca8 := hide ((hb8.cell (p := ⟨ga, v, none⟩) (by show ga < w7.heap.size; omega)).trans Ca7.out)
        have Cb8 := hide ((hb8.cell (p := ⟨gb, v, none⟩) (by show gb < w7.heap.size; omega)).trans Cb7.out)
        clear hb8 Hb7 Hrv7 Ca7 Cb7
        simp only
        go_wp2_with fail
        refine (dval_any B Av nv cv lv 1 3 (v : Int) none 0 0 (lfT 3 v) (Dom.totL lv) m2 w8 Ho.out.1 Ho.out.2.1 Ho.out.2.2.1 (by omega) (RE.leaf _ _ _ _ _) Hrv8.out Ho.out.2.2.2).mono ?_
        rintro e w9 ⟨rfl, hb9⟩
        rw [out_val Hmv.out hv6 Hu.out]
        have hz9 := hb9.size
        have Hb9 := hide (Hb8.out.trans (hb9.mono (by have := Hb8.out.size; omega)))
        have Hrv9 := hide (Hrv8.out.below (hb9.mono (by omega)))
        have ca := (hb9.cell (p := ⟨ga, v, none⟩) (by show ga < w8.heap.size; omega)).trans Ca8.out
        have cb := (hb9.cell (p := ⟨gb, v, none⟩) (by show gb < w8.heap.size; omega)).trans Cb8.out
        clear hb9 Hb8 Hrv8 Ca8 Cb8
        simp only
        go_wp2_with fail
        have Heq : Hid (trueE lv (eqT v) m1 m2 = (x == y)) := hide (by rw [eq_true Hmv.out hv6 Hu.out m1a m1b m2a m2b, Hx.out, Hy.out])
        have hBW : B ≤ w9.heap.size := by omega
        have Hdr : Hid (Below w9.heap.size w9 w9.drew) := hide (Below.refl _ _).drew
        have Hdr2 : ∀ o, Hid (Below w9.heap.size w9 (w9.drew.alloc o)) := fun o => hide ((Below.refl _ _).drew.alloc (Nat.le_refl _) o)
        have hv0 : (0 : Int) ≤ (v : Int) := by omega
        have hvn : (v : Int) < (nv : Int) := by omega
        have Hca := hide ca
        have Hcb := hide cb
        have hgaw : ga < w9.heap.size := by omega
        have hgbw : gb < w9.heap.size := by omega
        go_region_held3 (fun w' => w'.cell? ⟨ga, v, none⟩ = some (.int .i64 x) ∧ w'.cell? ⟨gb, v, none⟩ = some (.int .i64 y))
          (first | exact keep2 Hca.out Hcb.out (by exact hgaw) (by exact hgbw) (by assumption) | exact keep2 Hca.out Hcb.out (by exact hgaw) (by exact hgbw) (Hdr2 _))
          (first
            | (go_at_call 14; refine (c_pair hBW Ho Hrv9 Hdr).mono ?_; rintro e wa ⟨rfl, hba⟩; rw [Heq.out])
            | (go_at_call 11; refine (c_awake (by assumption)).mono ?_; rintro e wa ⟨rfl, hqa, hba⟩))
        go_wp2_with fail
        go_ret
        exact ⟨rfl, Hb9.out.trans (hba.out.mono (by have := Hb9.out.size; omega))⟩
    · have hmvb : (Dom.mayL lv != 0) = true := by simp [hmv]
      clear hmv
      go_wp2_with fail
      refine (awake_any _).mono ?_
      rintro e wz ⟨rfl, hbz⟩
      have Hf := hide (Hb2.out.trans (hbz.mono (by omega)))
      clear hbz
      go_wp2_with fail
      go_ret
      exact ⟨rfl, Hf.out⟩
end Go.Proofs.Ytkjclofkfmkbdaa
