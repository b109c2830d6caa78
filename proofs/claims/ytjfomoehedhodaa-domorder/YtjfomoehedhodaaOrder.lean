/- The walk of the statement DomOrder. -/
import Derived.Test.YtjfomoehedhodaaRefG
namespace Go.Proofs.Ytjfomoehedhodaa
open Go.RowKit Go.WideMaps Go.Maps
set_option linter.unusedSimpArgs false
set_option linter.unusedVariables false

theorem ri_cell {w : World} {B n k g : Nat} {xs : List Int} (h : RI w B (some ⟨g, 0, none⟩) n xs) (hk : k < n) : ∃ x, xs[k]? = some x ∧ w.cell? ⟨g, k, none⟩ = some (.int .i64 x) := by
  obtain ⟨b, off, x, e, _, hx, hc⟩ := h.at_ hk
  injection e with e
  injection e with e1 e2
  subst e1; subst e2
  rw [Nat.zero_add] at hc
  exact ⟨x, hx, hc⟩
/- one state on, variable by variable: 'c' says whether the next variable turns, too -/
def nextC (c : Bool) (a lo sz : Int) : Int := if c = true then (if lo + sz ≤ a + 1 then lo else a + 1) else a
def carryC (c : Bool) (a lo sz : Int) : Bool := c && decide (lo + sz ≤ a + 1)
theorem next_step {lo sz p q : Int} {c : Bool} (hsz : 1 ≤ sz) (hp : 0 ≤ p) (hq : q = if c = true then p + 1 else p) :
    lo + q % sz = nextC c (lo + p % sz) lo sz ∧ q / sz = (if carryC c (lo + p % sz) lo sz = true then p / sz + 1 else p / sz) := by
  have h1 := Int.emod_nonneg p (show sz ≠ 0 by omega)
  have h2 := Int.emod_lt_of_pos p (show 0 < sz by omega)
  have h3 := Int.mul_ediv_add_emod p sz
  cases c
  · simp [nextC, carryC] at hq ⊢; subst hq; exact ⟨rfl, rfl⟩
  · simp only [if_true] at hq
    subst hq
    by_cases hc : lo + sz ≤ lo + p % sz + 1
    · have e : p % sz = sz - 1 := by omega
      have e2 : p + 1 = sz * (p / sz + 1) := by rw [Int.mul_add, Int.mul_one]; omega
      simp only [nextC, carryC, if_true, hc, decide_true, Bool.true_and]
      rw [e2, Int.mul_emod_right, Int.mul_ediv_cancel_left _ (by omega)]
      exact ⟨by omega, rfl⟩
    · simp only [nextC, carryC, if_true, hc, decide_false, Bool.and_false, if_false, Bool.false_eq_true]
      have e3 : p + 1 = (p % sz + 1) + sz * (p / sz) := by omega
      have e4 : (p + 1) % sz = p % sz + 1 := by rw [e3, Int.add_mul_emod_self_left, Int.emod_eq_of_lt (by omega) (by omega)]
      have e5 : (p + 1) / sz = p / sz := by
        conv => lhs; rw [e3]
        rw [Int.add_mul_ediv_left _ _ (by omega), Int.ediv_eq_zero_of_lt (by omega) (by omega), Int.zero_add]
      exact ⟨by rw [e4]; omega, e5⟩

theorem order_step {l : List V} {s p q : Int} {k : Nat} {v : V} {c : Bool} (hl : l[k]? = some v) (hm : v.may = 0) (hp : 0 ≤ p)
    (h1 : (valsL l s).drop k = valsL (l.drop k) p) (h2 : (valsL l (s + 1)).drop k = valsL (l.drop k) q) (hq : q = if c = true then p + 1 else p) :
    ∃ a b, (valsL l s)[k]? = some a ∧ (valsL l (s + 1))[k]? = some b ∧ b = nextC c a v.lo v.size ∧ 0 ≤ p / v.size ∧
      (valsL l s).drop (k + 1) = valsL (l.drop (k + 1)) (p / v.size) ∧ (valsL l (s + 1)).drop (k + 1) = valsL (l.drop (k + 1)) (q / v.size) ∧ q / v.size = (if carryC c a v.lo v.size = true then p / v.size + 1 else p / v.size) ∧
      v.lo ≤ a ∧ a < v.lo + v.size := by
  have hsz : 1 ≤ v.size := size_pos hm
  obtain ⟨a1, a2⟩ := vals_step hl h1
  obtain ⟨b1, b2⟩ := vals_step hl h2
  obtain ⟨c1, c2⟩ := next_step (lo := v.lo) hsz hp hq
  have h3 := Int.emod_nonneg p (show v.size ≠ 0 by omega)
  have h4 := Int.emod_lt_of_pos p (show 0 < v.size by omega)
  exact ⟨_, _, a1, b1, c1, Int.ediv_nonneg hp (by omega), a2, b2, c2, by omega, by omega⟩
theorem q_step {l : List V} {k : Nat} {v : V} {q : Int} (hl : l[k]? = some v) (hm : v.may = 0) (h : q < prodV (l.drop k)) : q / v.size < prodV (l.drop (k + 1)) := by
  have hs : 1 ≤ v.size := size_pos hm
  rw [drop_at hl, prodV] at h
  rw [Int.ediv_lt_iff_lt_mul (by omega), Int.mul_comm]; exact h

set_option maxRecDepth 100000 in
set_option maxHeartbeats 2000000 in
theorem order_ok_any (A : Option Addr) (n c B : Nat) (l : List V) (s : Int) (w : World) (hm : n ≤ maxLen) (hnc : n ≤ c) (hc : c ≤ maxLen) (hB : B ≤ w.heap.size) (hv : RV w B A n l) (hnm : ∀ v ∈ l, v.nm.size ≤ maxLen) (hh : heavyGo 0 l = 0) (hM : mayL l = 0) (ht2 : 2 ≤ totL l) :
    Calls Try.prog 8 #[.slice A n c, .int .i64 s] w fun e w' => e = .returned (.bool true) ∧ Below w.heap.size w w' := by
  have Hm := hide hm
  have Hc := hide hc
  have ht := (mayL_zero hM).2
  have hn6 : n ≤ 6 := by have := totL_len ht; rw [hv.1] at this; exact this
  have Hn := hide hv.1
  have Hv := hide hv; clear hv
  have Hnm := hide hnm; clear hnm
  have Hh := hide hh; clear hh
  have HM := hide hM
  have Hall := hide (mayL_all hM)
  have HP := hide (totL_prod ht)
  obtain ⟨tb0, tb1⟩ := totL_bd l
  have tb2b : decide (totL l < 2) = false := by simp; omega
  clear hm hc hM ht
  go_enter Try.func8, Try.ntmps8
  go_wp2_with fail
  refine (heavy_any A n c B l _ Hm.out hB Hv.out Hnm.out).mono ?_
  rintro e w1 ⟨rfl, hb1⟩
  rw [Hh.out]
  have Hb1 := hide hb1
  have hz1 := hb1.size
  clear hb1
  go_wp2_with fail
  refine (rmay_any A n c B l _ Hm.out hnc Hc.out (by omega) (Hv.out.below (Hb1.out.mono hB)) Hnm.out).mono ?_
  rintro e w2 ⟨rfl, hb2⟩
  rw [HM.out]
  have hz2 := hb2.size
  have Hb2 := hide (Hb1.out.trans (hb2.mono hz1))
  clear hb2
  go_wp2_with fail
  refine (rtotal_any A n c B l _ Hm.out hnc Hc.out (by omega) (Hv.out.below (Hb2.out.mono hB)) Hnm.out).mono ?_
  rintro e w3 ⟨rfl, hb3⟩
  have hz3 := hb3.size
  have Hb3 := hide (Hb2.out.trans (hb3.mono (by omega)))
  clear hb3
  go_wp2_with fail
  refine (rtotal_any A n c B l _ Hm.out hnc Hc.out (by omega) (Hv.out.below (Hb3.out.mono hB)) Hnm.out).mono ?_
  rintro e w4 ⟨rfl, hb4⟩
  have hz4 := hb4.size
  have Hb4 := hide (Hb3.out.trans (hb4.mono (by omega)))
  clear hb4
  go_wp2_with fail
  obtain ⟨m0, m1⟩ := mod_bd s (totL l - 1) (by omega) (by omega)
  generalize wrap64 ((IntKind.u64.wrap s).tmod (totL l - 1)) = m at *
  refine (vals_good A n c B l m _ (by omega) (Hv.out.below (Hb4.out.mono hB)) Hnm.out HM.out m0 (by omega)).mono ?_
  rintro e w5 ⟨g1, rfl, hg1, hrow1, hb5⟩
  have hz5 := hb5.size
  have Hb5 := hide (Hb4.out.trans (hb5.mono (by omega)))
  have HA5 := hide (row_ri hrow1 ((valsL_length l m).trans Hn.out))
  clear hb5 hrow1
  go_wp2_with fail
  refine (vals_good A n c B l (m + 1) _ (by omega) (Hv.out.below (Hb5.out.mono hB)) Hnm.out HM.out (by omega) (by omega)).mono ?_
  rintro e w6 ⟨g2, rfl, hg2, hrow2, hb6⟩
  have hz6 := hb6.size
  have Hb6 := hide (Hb5.out.trans (hb6.mono (by omega)))
  have HA6 := hide (HA5.out.below hb6)
  have HD6 := hide (row_ri hrow2 ((valsL_length l (m + 1)).trans Hn.out))
  clear hb6 hrow2 HA5
  have Hq0 : Hid (m + 1 < prodV (l.drop 0)) := hide (by rw [List.drop_zero, ← HP.out]; omega)
  go_wp2_with fail
  go_loopw [9, 70] (fun cv i wr => ∃ (k : Nat) (p q : Int) (cb : Bool), k ≤ n ∧ i = .int .i64 k ∧ cv = .bool cb ∧ 0 ≤ p ∧ Hid (q = if cb = true then p + 1 else p) ∧ Hid (q < prodV (l.drop k)) ∧ Hid ((valsL l m).drop k = valsL (l.drop k) p) ∧ Hid ((valsL l (m + 1)).drop k = valsL (l.drop k) q) ∧ Below w6.heap.size w6 wr) (fun _ i _ => n - (intOf i).toNat)
  case atStart => exact ⟨0, m, m + 1, true, Nat.zero_le _, rfl, rfl, m0, hide rfl, Hq0, hide rfl, hide rfl, Below.refl _ _⟩
  case round =>
    obtain ⟨k, p, q, cb, hk, rfl, rfl, hp0, HQ, HL, H1, H2, hb⟩ := hrel
    have hsz := hb.size
    have hbw : Below w.heap.size w wr := Hb6.out.trans (hb.mono (by omega))
    by_cases hlt : k < n
    · have hlt' : ((k : Int) < (n : Int)) := by omega
      obtain ⟨b, off, v, rfl, hbB, hlk, c0, c1, c2, c3, c4⟩ := (Hv.out.below (hbw.mono hB)).at_ hlt
      have hmay := Hall.out v (List.mem_of_getElem? hlk)
      obtain ⟨a', b', ha', hb', hnx, hq', hd1, hd2, hqq, ha1, ha2⟩ := order_step hlk hmay hp0 H1.out H2.out HQ.out
      have HL2 := hide (q_step hlk hmay HL.out)
      obtain ⟨x, hx, ca⟩ := ri_cell (HA6.out.below (hb.mono (by omega))) hlt
      obtain ⟨y, hy, cd⟩ := ri_cell (HD6.out.below hb) hlt
      obtain rfl : a' = x := by rw [ha'] at hx; injection hx
      obtain rfl : b' = y := by rw [hb'] at hy; injection hy
      have sz1 := size_pos hmay
      have sz2 := (size_bd v.srt v.lo v.hi).2
      obtain ⟨lo1, lo2⟩ := may_lo hmay
      have ga : g1 < wr.heap.size := by obtain ⟨_, _, e1, e2, _⟩ := HA6.out.2 (by omega); injection e1 with e1; injection e1 with e1; omega
      have gd : g2 < wr.heap.size := by obtain ⟨_, _, e1, e2, _⟩ := HD6.out.2 (by omega); injection e1 with e1; injection e1 with e1; omega
      have ca' := (World.cell?_alloc_lt wr (.cells #[.string v.nm, .bool v.env, .int .i64 v.srt, .int .i64 v.lo, .int .i64 v.hi] 36) ⟨g1, k, none⟩ ga).trans ca
      have cd' := (World.cell?_alloc_lt wr (.cells #[.string v.nm, .bool v.env, .int .i64 v.srt, .int .i64 v.lo, .int .i64 v.hi] 36) ⟨g2, k, none⟩ gd).trans cd
      have hbx : Below w6.heap.size w6 (wr.alloc (.cells #[.string v.nm, .bool v.env, .int .i64 v.srt, .int .i64 v.lo, .int .i64 v.hi] 36)) := hb.alloc hsz _
      have hvs : sizeOfV v.srt v.lo v.hi = v.size := rfl
      rw [hvs] at sz1 sz2
      have Hd1 := hide hd1; have Hd2 := hide hd2; have Hqq := hide hqq; have Hnx := hide hnx
      clear hlk hmay ha' hb' hx hy ca cd hd1 hd2 hqq hnx H1 H2 HQ HL hvs
      cases cb
      · have Hbb : Hid (b' = a') := hide (by rw [Hnx.out]; simp [nextC])
        have Hq2 : Hid (q / v.size = if false = true then p / v.size + 1 else p / v.size) := hide (by rw [Hqq.out]; simp [carryC])
        rw [Hbb.out] at cd'
        clear Hnx Hqq Hbb
        go_wp2_with fail
        go_roundw
        case rel => exact ⟨k + 1, p / v.size, q / v.size, false, by omega, by go_num, rfl, hq', Hq2, HL2, Hd1, Hd2, hbx⟩
        case measure => simp [intOf]; omega
      · have hvs : v.size = sizeOfV v.srt v.lo v.hi := rfl
        by_cases hcy : v.lo + v.size ≤ a' + 1
        · rw [hvs] at sz1 sz2 ha2
          have hcyb : decide (v.lo + sizeOfV v.srt v.lo v.hi ≤ a' + 1) = true := by rw [← hvs]; simp [hcy]
          have Hbb : Hid (b' = v.lo) := hide (by rw [Hnx.out]; simp [nextC, hcy])
          have Hq2 : Hid (q / v.size = if true = true then p / v.size + 1 else p / v.size) := hide (by rw [Hqq.out]; simp [carryC, hcy])
          rw [Hbb.out] at cd'
          clear Hnx Hqq Hbb hcy
          go_wp2_with fail
          clear c0 c1 c2 c3 c4
          have hbox := box_new wr v 36
          have hbz : (wr.alloc (.cells #[.string v.nm, .bool v.env, .int .i64 v.srt, .int .i64 v.lo, .int .i64 v.hi] 36)).heap.size = wr.heap.size + 1 := by simp
          generalize wr.alloc (.cells #[.string v.nm, .bool v.env, .int .i64 v.srt, .int .i64 v.lo, .int .i64 v.hi] 36) = w7 at *
          have hbz3 : wr.heap.size < w7.heap.size := by omega
          have hga : g1 < w7.heap.size := by omega
          have hgd : g2 < w7.heap.size := by omega
          generalize wr.heap.size = bx at *
          have Hbox := hide hbox
          obtain ⟨d0, d1, d2, d3, d4⟩ := hbox
          have C0 := cell_regrown d0
          have C1 := cell_regrown d1
          have C2 := cell_regrown d2
          have C3 := cell_regrown d3
          have C4 := cell_regrown d4
          have hwr : IntKind.i64.wrap (v.lo + sizeOfV v.srt v.lo v.hi) = v.lo + sizeOfV v.srt v.lo v.hi := IntWalk.i64_in _ (by omega)
          clear d0 d1 d2 d3 d4 hbz
          refine wp_region_quiet_below (by kernel_rfl) (by kernel_rfl) ?_
          repeat (go_big_quiet_step ((go_at_call 23; exact Calls.regrown_of (rsize_any _ _ _ _ _ _))))
          refine wpQuiet_nil ?_
          intro w8 hw8
          obtain ⟨pp, hp⟩ := hw8
          have hb8 : Below w7.heap.size w7 w8 := by rw [hp]; exact below_regrown w7 pp.d pp.os
          obtain ⟨d0, d1, d2, d3, d4⟩ := Hbox.out.below hb8 hbz3
          have cd8 := (hb8.cell (p := ⟨g2, k, none⟩) hgd).trans cd'
          have hbx8 := hbx.trans (hb8.mono (by omega))
          clear hp hb8 C0 C1 C2 C3 C4 ca' cd' hwr
          go_wp2_with fail
          go_roundw
          case rel => exact ⟨k + 1, p / v.size, q / v.size, true, by omega, by go_num, rfl, hq', Hq2, HL2, Hd1, Hd2, hbx8⟩
          case measure => simp [intOf]; omega
        · rw [hvs] at sz1 sz2 ha2
          have hcyb : decide (v.lo + sizeOfV v.srt v.lo v.hi ≤ a' + 1) = false := by rw [← hvs]; simp; omega
          have Hbb : Hid (b' = a' + 1) := hide (by rw [Hnx.out]; simp [nextC, hcy])
          have Hq2 : Hid (q / v.size = if false = true then p / v.size + 1 else p / v.size) := hide (by rw [Hqq.out]; simp [carryC, hcy])
          rw [Hbb.out] at cd'
          clear Hnx Hqq Hbb hcy
          go_wp2_with fail
          clear c0 c1 c2 c3 c4
          have hbox := box_new wr v 36
          have hbz : (wr.alloc (.cells #[.string v.nm, .bool v.env, .int .i64 v.srt, .int .i64 v.lo, .int .i64 v.hi] 36)).heap.size = wr.heap.size + 1 := by simp
          generalize wr.alloc (.cells #[.string v.nm, .bool v.env, .int .i64 v.srt, .int .i64 v.lo, .int .i64 v.hi] 36) = w7 at *
          have hbz3 : wr.heap.size < w7.heap.size := by omega
          have hga : g1 < w7.heap.size := by omega
          have hgd : g2 < w7.heap.size := by omega
          generalize wr.heap.size = bx at *
          have Hbox := hide hbox
          obtain ⟨d0, d1, d2, d3, d4⟩ := hbox
          have C0 := cell_regrown d0
          have C1 := cell_regrown d1
          have C2 := cell_regrown d2
          have C3 := cell_regrown d3
          have C4 := cell_regrown d4
          have hwr : IntKind.i64.wrap (v.lo + sizeOfV v.srt v.lo v.hi) = v.lo + sizeOfV v.srt v.lo v.hi := IntWalk.i64_in _ (by omega)
          clear d0 d1 d2 d3 d4 hbz
          refine wp_region_quiet_below (by kernel_rfl) (by kernel_rfl) ?_
          repeat (go_big_quiet_step ((go_at_call 23; exact Calls.regrown_of (rsize_any _ _ _ _ _ _))))
          refine wpQuiet_nil ?_
          intro w8 hw8
          obtain ⟨pp, hp⟩ := hw8
          have hb8 : Below w7.heap.size w7 w8 := by rw [hp]; exact below_regrown w7 pp.d pp.os
          obtain ⟨d0, d1, d2, d3, d4⟩ := Hbox.out.below hb8 hbz3
          have cd8 := (hb8.cell (p := ⟨g2, k, none⟩) hgd).trans cd'
          have hbx8 := hbx.trans (hb8.mono (by omega))
          clear hp hb8 C0 C1 C2 C3 C4 ca' cd' hwr
          go_wp2_with fail
          go_roundw
          case rel => exact ⟨k + 1, p / v.size, q / v.size, false, by omega, by go_num, rfl, hq', Hq2, HL2, Hd1, Hd2, hbx8⟩
          case measure => simp [intOf]; omega
    · have hlt' : ¬ ((k : Int) < (n : Int)) := by omega
      have hcb : cb = false := by
        have h1 := HL.out
        rw [List.drop_of_length_le (by rw [Hn.out]; omega), prodV] at h1
        cases cb
        · rfl
        · have := HQ.out; simp at this; omega
      subst hcb
      clear HQ HL H1 H2
      go_wp2_with fail
      refine (awake_any _).mono ?_
      rintro e w9 ⟨rfl, hb9⟩
      have hfin := hbw.trans (hb9.mono (by omega))
      go_wp2_with fail
      go_ret
      exact ⟨rfl, hfin⟩

set_option maxRecDepth 100000 in
set_option maxHeartbeats 1000000 in
theorem order_any (A : Option Addr) (n c B : Nat) (l : List V) (s : Int) (w : World) (hm : n ≤ maxLen) (hnc : n ≤ c) (hc : c ≤ maxLen) (hB : B ≤ w.heap.size) (hv : RV w B A n l) (hnm : ∀ v ∈ l, v.nm.size ≤ maxLen) :
    Calls Try.prog 8 #[.slice A n c, .int .i64 s] w fun e w' => e = .returned (.bool true) ∧ Below w.heap.size w w' := by
  have Hm := hide hm
  have Hc := hide hc
  have Hv := hide hv
  have Hnm := hide hnm
  by_cases hh : heavyGo 0 l = 0
  · have Hh := hide hh
    by_cases hM : mayL l = 0
    · by_cases ht2 : 2 ≤ totL l
      · exact order_ok_any A n c B l s w hm hnc hc hB hv hnm hh hM ht2
      · have tb2b : decide (totL l < 2) = true := by simp; omega
        have HM := hide hM
        clear hm hc hv hnm hh hM ht2
        go_enter Try.func8, Try.ntmps8
        go_wp2_with fail
        refine (heavy_any A n c B l _ Hm.out hB Hv.out Hnm.out).mono ?_
        rintro e w1 ⟨rfl, hb1⟩
        rw [Hh.out]
        have Hb1 := hide hb1
        have hz1 := hb1.size
        clear hb1
        go_wp2_with fail
        refine (rmay_any A n c B l _ Hm.out hnc Hc.out (by omega) (Hv.out.below (Hb1.out.mono hB)) Hnm.out).mono ?_
        rintro e w2 ⟨rfl, hb2⟩
        rw [HM.out]
        have hz2 := hb2.size
        have Hb2 := hide (Hb1.out.trans (hb2.mono hz1))
        clear hb2
        go_wp2_with fail
        refine (rtotal_any A n c B l _ Hm.out hnc Hc.out (by omega) (Hv.out.below (Hb2.out.mono hB)) Hnm.out).mono ?_
        rintro e w3 ⟨rfl, hb3⟩
        have hz3 := hb3.size
        have Hb3 := hide (Hb2.out.trans (hb3.mono (by omega)))
        clear hb3
        go_wp2_with fail
        refine (awake_any _).mono ?_
        rintro e w4 ⟨rfl, hb4⟩
        have Hb4 := hide (Hb3.out.trans (hb4.mono (by omega)))
        clear hb4
        go_wp2_with fail
        go_ret
        exact ⟨rfl, Hb4.out⟩
    · have hMb : (mayL l != 0) = true := by simp [hM]
      clear hm hc hv hnm hM hh
      go_enter Try.func8, Try.ntmps8
      go_wp2_with fail
      refine (heavy_any A n c B l _ Hm.out hB Hv.out Hnm.out).mono ?_
      rintro e w1 ⟨rfl, hb1⟩
      rw [Hh.out]
      have Hb1 := hide hb1
      have hz1 := hb1.size
      clear hb1
      go_wp2_with fail
      refine (rmay_any A n c B l _ Hm.out hnc Hc.out (by omega) (Hv.out.below (Hb1.out.mono hB)) Hnm.out).mono ?_
      rintro e w2 ⟨rfl, hb2⟩
      have hz2 := hb2.size
      have Hb2 := hide (Hb1.out.trans (hb2.mono hz1))
      clear hb2
      go_wp2_with fail
      refine (awake_any _).mono ?_
      rintro e w4 ⟨rfl, hb4⟩
      have Hb4 := hide (Hb2.out.trans (hb4.mono (by omega)))
      clear hb4
      go_wp2_with fail
      go_ret
      exact ⟨rfl, Hb4.out⟩
  · have hh2 : 0 < heavyGo 0 l := by have := heavy_nonneg l 0; omega
    have hhb : decide (0 < heavyGo 0 l) = true := by simp [hh2]
    clear hm hc hv hnm hh
    go_enter Try.func8, Try.ntmps8
    go_wp2_with fail
    refine (heavy_any A n c B l _ Hm.out hB Hv.out Hnm.out).mono ?_
    rintro e w1 ⟨rfl, hb1⟩
    have Hb1 := hide hb1
    have hz1 := hb1.size
    clear hb1
    go_wp2_with fail
    refine (awake_any _).mono ?_
    rintro e w4 ⟨rfl, hb4⟩
    have Hb4 := hide (Hb1.out.trans (hb4.mono (by omega)))
    clear hb4
    go_wp2_with fail
    go_ret
    exact ⟨rfl, Hb4.out⟩
end Go.Proofs.Ytjfomoehedhodaa
