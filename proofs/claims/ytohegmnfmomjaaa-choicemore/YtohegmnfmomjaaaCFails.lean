/- The walk of ChoiceFails. -/
import Derived.Test.YtohegmnfmomjaaaCFailsB
set_option maxRecDepth 100000
namespace Go.Proofs.Ytohegmnfmomjaaa
open Go.RowKit Ex
open Go.Sort (grow)
set_option linter.unusedSimpArgs false
set_option linter.unusedVariables false

theorem rc_below {w w' : World} {B : Nat} {x : C2} {c : CT} (h : RC w B x c) (hb : Below B w w') : RC w' B x c :=
  ⟨h.1.below hb, h.2.keep (fun b o y h1 hy => SetAt.keep h1 hy (fun p hp => hb.cell hp))⟩
theorem fails_num {l : List Dom.V} {v : Dom.V} {z st : Int} (h : v.lo + v.size ≤ z) : (valE l (.mk 1 z []) st st).2 ≠ 0 ∨ (valE l (.mk 1 z []) st st).1 < v.lo ∨ v.lo + v.size ≤ (valE l (.mk 1 z []) st st).1 := by
  unfold valE
  split
  · split
    · right; right
      exact h
    · left; simp
  · left; simpa using ‹_›
theorem fails_add {l : List Dom.V} {st : Int} : (valE l (.mk 12 0 [.mk 1 1000 [], .mk 1 1 []]) st st).2 ≠ 0 := by
  unfold valE
  split
  · split
    · have : valP (vT (Dom.valsL l st) (Dom.valsL l st) (.mk 12 0 [.mk 1 1000 [], .mk 1 1 []])) = (0, 6) := rfl
      rw [this]; simp
    · simp
  · simpa using ‹_›
theorem size_int {v : Dom.V} (hm : v.may = 0) (hs : v.srt = 2) : v.lo + v.size = v.hi + 1 ∧ -1000 ≤ v.hi ∧ v.hi ≤ 1000 := by
  unfold Dom.V.may Dom.mayOfV at hm
  rw [hs] at hm
  simp at hm
  have hr := Dom.range_true hm
  unfold Dom.V.size Dom.sizeOfV
  rw [hs]
  simp [hm]
  omega
theorem one_cmdG {w : World} {B g : Nat} {op n : Int} {A : Option Addr} {len cap : Nat} {O : Option Addr} {k c : Nat} {t : T} {ss : List ST} (hg : w.heap[g]? = some (.cells #[.int .i64 op, .int .i64 n, .slice A len cap, .slice O k c] 31 (0, 0))) (he : EX w B ⟨op, n, A, len, cap⟩ t) (hB : B ≤ w.heap.size) (h : Rows SetAt 5 w w.heap.size ⟨O, k, c⟩ ss) : Rows CmdAt 4 w w.heap.size ⟨some ⟨g, 0, none⟩, 1, 1⟩ [⟨t, ss⟩] := by
  refine ⟨rfl, Nat.le_refl _, by show 1 ≤ maxLen; unfold maxLen; omega, fun _ => ⟨g, 0, rfl, blk_lt hg, fun k x hx => ?_⟩, fun h => by cases h⟩
  obtain ⟨hk, e⟩ := List.getElem?_eq_some_iff.1 hx
  simp at hk
  subst hk
  simp at e
  subst e
  exact ⟨⟨⟨op, n, A, len, cap⟩, ⟨blk hg (i := 0) rfl, blk hg (i := 1) rfl, blk hg (i := 2) rfl⟩, he.more hB⟩, ⟨O, _, c⟩, blk hg (i := 3) rfl, h⟩
theorem rm_env {w : World} {B : Nat} {x : M8} {m : MT} {s : SL} {l : List CT} (h : RM w B x m) (hs : Rows CmdAt 4 w B s l) : RM w B { x with env := s } { m with env := l } :=
  ⟨h.1, h.2.1, h.2.2.1, h.2.2.2.1, hs, h.2.2.2.2.2.1, h.2.2.2.2.2.2.1, h.2.2.2.2.2.2.2.1, h.2.2.2.2.2.2.2.2⟩
theorem row_env {w : World} {g : Nat} {x : M8} {s : SL} (h : w.rowIs g 28 12 (fun i => if i = 7 then s.v else mV x i)) : w.rowIs g 28 12 (mV { x with env := s }) :=
  h.congr (fun i hi => by
    have h : i = 0 ∨ i = 1 ∨ i = 2 ∨ i = 3 ∨ i = 4 ∨ i = 5 ∨ i = 6 ∨ i = 7 ∨ i = 8 ∨ i = 9 ∨ i = 10 ∨ i = 11 := by omega
    rcases h with rfl | rfl | rfl | rfl | rfl | rfl | rfl | rfl | rfl | rfl | rfl | rfl <;> rfl)
theorem sets_more {w w0 : World} {B base n cp : Nat} {O : Option Addr} {ks : List (List Value)} {ss : List ST} {s : ST} {x : E5} (hch : Chunk 5 (SetC w0 B) ks ss) (hb : Below B w0 w) (hB : B ≤ w.heap.size) (how : w.ownsRow base 50 5 (.slice O n cp) n (ks.flatten ++ [.int .i64 s.var, .bool s.any, .int .i64 x.op, .int .i64 x.n, .slice x.A x.len x.cap])) (hx : EX w w.heap.size x s.e) : Rows SetAt 5 w w.heap.size ⟨O, n, cp⟩ (ss ++ [s]) := by
  rw [← rows_flat_snoc] at how
  exact own_rows (by omega) how ((hch.turn (fun ch a h => SetC.up h hb hB)).snoc rfl (by simp [Value.oneCell']) ⟨x, rfl, hx⟩) (fun b o ch a _ h1 h2 => set_back h1 h2)
theorem own_nil {w : World} {base e sz n c : Nat} {O : Option Addr} {xs : List Value} (h : w.ownsRow base e sz (.slice O n c) n xs) : O = none → n = 0 ∧ c = 0 := fun e => by
  rcases h.2 with ⟨e1, _⟩ | ⟨g, cap, cur, e1, _⟩
  · injection e1 with _ e2 e3; exact ⟨e2, e3⟩
  · injection e1 with e1; rw [e] at e1; cases e1
theorem own_cl {w : World} {base e sz n c : Nat} {O : Option Addr} {xs : List Value} (h : w.ownsRow base e sz (.slice O n c) n xs) : ∀ ad, O = some ad → ad.block ∈ (Value.slice O n c).ownBlock.toList ∧ ∀ (j : Nat) u, xs[j]? = some u → w.cell? (ad.add j) = some u := fun ad e => by
  rcases h.2 with ⟨e1, _⟩ | ⟨g, cap, cur, e1, _⟩
  · injection e1 with e1; rw [e1] at e; cases e
  · injection e1 with e1 e2 e3
    rw [e1] at e
    injection e with e
    subst e; subst e1
    exact ⟨by simp [Value.ownBlock], fun j u hu => h.cells (g := g) rfl j u hu⟩
theorem kids_ex {w : World} {gk : Nat} (h : w.heap[gk]? = some (.cells #[.int .i64 1, .int .i64 1000, .slice none 0 0, .int .i64 1, .int .i64 1, .slice none 0 0] 25 (0, 0))) : EX w w.heap.size ⟨12, 0, some ⟨gk, 0, none⟩, 2, 2⟩ (.mk 12 0 [.mk 1 1000 [], .mk 1 1 []]) := by
  refine ⟨2, RE.node (d := 1) rfl (Nat.le_refl _) (by show 2 ≤ maxLen; unfold maxLen; omega) (blk_lt h) (fun k u hu => ?_)⟩
  have hk : k < 2 := by have := (List.getElem?_eq_some_iff.1 hu).1; simpa using this
  have h2 : k = 0 ∨ k = 1 := by omega
  rcases h2 with rfl | rfl
  · simp at hu; subst hu
    exact ⟨1, 1000, none, 0, 0, ⟨blk h (i := 0) rfl, blk h (i := 1) rfl, blk h (i := 2) rfl⟩, RE.leaf _ _ 0 _ _⟩
  · simp at hu; subst hu
    exact ⟨1, 1, none, 0, 0, ⟨blk h (i := 3) rfl, blk h (i := 4) rfl, blk h (i := 5) rfl⟩, RE.leaf _ _ 0 _ _⟩
theorem filt_snoc {l : List ST} {k : Nat} {s : ST} (h : l[k]? = some s) (p : ST → Bool) : (l.take (k + 1)).filter p = (l.take k).filter p ++ (if p s = true then [s] else []) := by
  rw [List.take_add_one, h, List.filter_append]
  simp [List.filter]
  cases p s <;> simp
set_option maxHeartbeats 16000000 in
theorem cfails_any (B : Nat) (x : M8) (m : MT) (y : C2) (c : CT) (st0 vv0 : Int) (w : World) (hB : B ≤ w.heap.size) (hrm : RM w B x m) (hrc : RC w B y c) :
    Calls Try.prog 6 #[.agg x.cells, .agg y.cells, .int .i64 st0, .int .i64 vv0] w fun e w' => e = .returned (.bool true) ∧ Below w.heap.size w w' := by
  obtain ⟨⟨vA, vn, vc⟩, ⟨io, im, iA, il, ic⟩, ⟨jo, jm, jA, jl, jc⟩, ⟨eA, en, ec⟩, ⟨sA, sn, sc⟩, ⟨aA, an, ac⟩, ⟨nA, nn, nc⟩, ⟨pA, pn, pc⟩⟩ := x
  obtain ⟨⟨yo, yn, yA, yl, yc⟩, ⟨tA, tn, tc⟩⟩ := y
  have hs1 : (w.alloc (.cells (M8.cells ⟨⟨vA, vn, vc⟩, ⟨io, im, iA, il, ic⟩, ⟨jo, jm, jA, jl, jc⟩, ⟨eA, en, ec⟩, ⟨sA, sn, sc⟩, ⟨aA, an, ac⟩, ⟨nA, nn, nc⟩, ⟨pA, pn, pc⟩⟩) 28)).heap.size = w.heap.size + 1 := by simp
  have hbx := ((Below.refl w.heap.size w).alloc (Nat.le_refl _) (.cells (M8.cells ⟨⟨vA, vn, vc⟩, ⟨io, im, iA, il, ic⟩, ⟨jo, jm, jA, jl, jc⟩, ⟨eA, en, ec⟩, ⟨sA, sn, sc⟩, ⟨aA, an, ac⟩, ⟨nA, nn, nc⟩, ⟨pA, pn, pc⟩⟩) 28)).alloc (by omega) (.cells #[.int .i64 yo, .int .i64 yn, .slice yA yl yc, .slice tA tn tc] 31)
  have Hrow0 := hide ((mV_new w ⟨⟨vA, vn, vc⟩, ⟨io, im, iA, il, ic⟩, ⟨jo, jm, jA, jl, jc⟩, ⟨eA, en, ec⟩, ⟨sA, sn, sc⟩, ⟨aA, an, ac⟩, ⟨nA, nn, nc⟩, ⟨pA, pn, pc⟩⟩).alloc (.cells #[.int .i64 yo, .int .i64 yn, .slice yA yl yc, .slice tA tn tc] 31))
  have Hcb0 := hide (boxC_new (w.alloc (.cells (M8.cells ⟨⟨vA, vn, vc⟩, ⟨io, im, iA, il, ic⟩, ⟨jo, jm, jA, jl, jc⟩, ⟨eA, en, ec⟩, ⟨sA, sn, sc⟩, ⟨aA, an, ac⟩, ⟨nA, nn, nc⟩, ⟨pA, pn, pc⟩⟩) 28)) yo yn yA yl yc tA tn tc 31)
  rw [hs1] at Hcb0
  have Hrm0 := hide (hrm.below (hbx.mono hB))
  have Hrc0 := hide (rc_below hrc (hbx.mono hB))
  have Hb0 := hide hbx
  have hz0 : w.heap.size + 2 ≤ ((w.alloc (.cells (M8.cells ⟨⟨vA, vn, vc⟩, ⟨io, im, iA, il, ic⟩, ⟨jo, jm, jA, jl, jc⟩, ⟨eA, en, ec⟩, ⟨sA, sn, sc⟩, ⟨aA, an, ac⟩, ⟨nA, nn, nc⟩, ⟨pA, pn, pc⟩⟩) 28)).alloc (.cells #[.int .i64 yo, .int .i64 yn, .slice yA yl yc, .slice tA tn tc] 31)).heap.size := by simp
  have Ho := hide hrm.1
  clear hrm hrc hbx hs1
  obtain ⟨q0, q1, q2, q3, q4, q5, q6, q7, q8, q9, q10, q11⟩ := row12 (mV_box Hrow0.out)
  obtain ⟨f0, f1, f2, f3⟩ := Hcb0.out
  simp only [M8.cells, SL.v, C2.cells] at *
  go_enter Try.func6, Try.ntmps6
  go_wp2_with fail
  clear q0 q1 q2 q3 q4 q5 q6 q7 q8 q9 q10 q11 f0 f1 f2 f3
  generalize (w.alloc (.cells #[.slice vA vn vc, .int .i64 io, .int .i64 im, .slice iA il ic, .int .i64 jo, .int .i64 jm, .slice jA jl jc, .slice eA en ec, .slice sA sn sc, .slice aA an ac, .slice nA nn nc, .slice pA pn pc] 28)).alloc (.cells #[.int .i64 yo, .int .i64 yn, .slice yA yl yc, .slice tA tn tc] 31) = w0 at *
  generalize hN : w.heap.size = N at *
  refine (hv6_any B ⟨⟨vA, vn, vc⟩, ⟨io, im, iA, il, ic⟩, ⟨jo, jm, jA, jl, jc⟩, ⟨eA, en, ec⟩, ⟨sA, sn, sc⟩, ⟨aA, an, ac⟩, ⟨nA, nn, nc⟩, ⟨pA, pn, pc⟩⟩ m w0 (by omega) Hrm0.out).mono ?_
  rintro e w1 ⟨rfl, hb1⟩
  have hz1 := hb1.size
  have Hb1 := hide (Hb0.out.trans (hb1.mono (by omega)))
  have Hrm1 := hide (Hrm0.out.below (hb1.mono (by omega)))
  have Hrc1 := hide (rc_below Hrc0.out (hb1.mono (by omega)))
  have Hrow1 := hide (Hrow0.out.of_block (hb1.block _ (by omega)))
  have Hcb1 := hide (Hcb0.out.below hb1 (by omega))
  clear hb1 Hb0 Hrm0 Hrc0 Hrow0 Hcb0
  generalize hv6 m = hv at *
  by_cases hh : 0 < hv
  case pos =>
    have hhb : decide (0 < hv) = true := by simp [hh]
    go_wp2_with fail
    refine (awake_any _).mono ?_
    rintro e y1 ⟨rfl, hby⟩
    go_wp2_with fail
    go_ret
    exact ⟨rfl, by rw [hN]; exact Hb1.out.trans (hby.mono (by omega))⟩
  case neg =>
    have hhb : decide (0 < hv) = false := by simp; omega
    obtain ⟨q0, q1, q2, q3, q4, q5, q6, q7, q8, q9, q10, q11⟩ := row12 (mV_box Hrow1.out)
    simp only at q0 q1 q2 q3 q4 q5 q6 q7 q8 q9 q10 q11
    obtain ⟨f0, f1, f2, f3⟩ := Hcb1.out
    go_wp2_with fail
    clear q0 q1 q2 q3 q4 q5 q6 q7 q8 q9 q10 q11 f0 f1 f2 f3
    refine (rmod_any B ⟨⟨vA, vn, vc⟩, ⟨io, im, iA, il, ic⟩, ⟨jo, jm, jA, jl, jc⟩, ⟨eA, en, ec⟩, ⟨sA, sn, sc⟩, ⟨aA, an, ac⟩, ⟨nA, nn, nc⟩, ⟨pA, pn, pc⟩⟩ m w1 (by omega) Hrm1.out).mono ?_
    rintro e w2 ⟨rfl, hb2⟩
    have hz2 := hb2.size
    have Hb2 := hide (Hb1.out.trans (hb2.mono (by omega)))
    have Hrm2 := hide (Hrm1.out.below (hb2.mono (by omega)))
    have Hrc2 := hide (rc_below Hrc1.out (hb2.mono (by omega)))
    have Hrow2 := hide (Hrow1.out.of_block (hb2.block _ (by omega)))
    have Hcb2 := hide (Hcb1.out.below hb2 (by omega))
    clear hb2 Hb1 Hrm1 Hrc1 Hrow1 Hcb1
    by_cases hc : modE m = 0
    case neg =>
      have hcb : (modE m != 0) = true := by simp [hc]
      go_wp2_with fail
      refine (awake_any _).mono ?_
      rintro e y1 ⟨rfl, hby⟩
      go_wp2_with fail
      go_ret
      exact ⟨rfl, by rw [hN]; exact Hb2.out.trans (hby.mono (by omega))⟩
    case pos =>
      have hcb : (modE m != 0) = false := by simp [hc]
      have Hc := hide hc
      clear hc
      obtain ⟨q0, q1, q2, q3, q4, q5, q6, q7, q8, q9, q10, q11⟩ := row12 (mV_box Hrow2.out)
      simp only at q0 q1 q2 q3 q4 q5 q6 q7 q8 q9 q10 q11
      obtain ⟨f0, f1, f2, f3⟩ := Hcb2.out
      go_wp2_with fail
      clear q0 q1 q2 q3 q4 q5 q6 q7 q8 q9 q10 q11 f0 f1 f2 f3
      refine (rcmd_any B vA vn vc m.vars ⟨⟨yo, yn, yA, yl, yc⟩, ⟨tA, tn, tc⟩⟩ c true w2 Ho.out (by omega) Hrc2.out Hrm2.out.2.1).mono ?_
      rintro e w3 ⟨rfl, hb3⟩
      have hz3 := hb3.size
      have Hb3 := hide (Hb2.out.trans (hb3.mono (by omega)))
      have Hrm3 := hide (Hrm2.out.below (hb3.mono (by omega)))
      have Hrc3 := hide (rc_below Hrc2.out (hb3.mono (by omega)))
      have Hrow3 := hide (Hrow2.out.of_block (hb3.block _ (by omega)))
      have Hcb3 := hide (Hcb2.out.below hb3 (by omega))
      clear hb3 Hb2 Hrm2 Hrc2 Hrow2 Hcb2
      by_cases hcm : cmdE m.vars c true = 0
      case neg =>
        have hcmb : (cmdE m.vars c true != 0) = true := by simp [hcm]
        go_wp2_with fail
        refine (awake_any _).mono ?_
        rintro e y1 ⟨rfl, hby⟩
        go_wp2_with fail
        go_ret
        exact ⟨rfl, by rw [hN]; exact Hb3.out.trans (hby.mono (by omega))⟩
      case pos =>
        have hcmb : (cmdE m.vars c true != 0) = false := by simp [hcm]
        have htn6 : tn ≤ 6 := by have h1 := (cmdE_parts hcm).2.2.1; have h2 := Hrc3.out.2.1; simp only at h2; omega
        have hvl : m.vars.length = vn := Hrm3.out.2.1.1
        have hvn6 : vn ≤ 6 := by have h2 := Dom.totL_len (Dom.mayL_zero (mod_vars Hc.out)).2; omega
        clear hcm
        by_cases hv0 : vn = 0
        case pos =>
          have hv0b : ((vn : Int) == 0) = true := by simp [hv0]
          have hv0c : (vn == 0) = true := by simp [hv0]
          obtain ⟨q0, _⟩ := row12 (mV_box Hrow3.out)
          simp only at q0
          go_wp2_with fail
          refine (awake_any _).mono ?_
          rintro e y1 ⟨rfl, hby⟩
          go_wp2_with fail
          go_ret
          exact ⟨rfl, by rw [hN]; exact Hb3.out.trans (hby.mono (by omega))⟩
        case neg =>
          have hv0b : ((vn : Int) == 0) = false := by simp; omega
          have hv0c : (vn == 0) = false := by simp; omega
          obtain ⟨q0, q1, q2, q3, q4, q5, q6, q7, q8, q9, q10, q11⟩ := row12 (mV_box Hrow3.out)
          simp only at q0 q1 q2 q3 q4 q5 q6 q7 q8 q9 q10 q11
          obtain ⟨f0, f1, f2, f3⟩ := Hcb3.out
          go_wp2_with fail
          clear q0 q1 q2 q3 q4 q5 q6 q7 q8 q9 q10 q11 f0 f1 f2 f3
          refine (Dom.total_any vA vn vc B m.vars w3 Ho.out.1 (by omega) Hrm3.out.2.1).mono ?_
          rintro e w4 ⟨rfl, hb4⟩
          have hz4 := hb4.size
          have Hb4 := hide (Hb3.out.trans (hb4.mono (by omega)))
          have Hrm4 := hide (Hrm3.out.below (hb4.mono (by omega)))
          have Hrc4 := hide (rc_below Hrc3.out (hb4.mono (by omega)))
          have Hrow4 := hide (Hrow3.out.of_block (hb4.block _ (by omega)))
          have Hcb4 := hide (Hcb3.out.below hb4 (by omega))
          clear hb4 Hb3 Hrm3 Hrc3 Hrow3 Hcb3
          obtain ⟨tt, ht, ht512⟩ : ∃ t : Nat, Dom.totL m.vars = (t : Int) ∧ t ≤ 512 := ⟨totN m, by unfold totN; have := (Dom.totL_bd m.vars).1; omega, by unfold totN; have := (Dom.totL_bd m.vars).2; omega⟩
          have Ht := hide ht
          have htp : 0 < tt := by have := (Dom.mayL_zero (mod_vars Hc.out)).2; omega
          rw [ht]
          clear ht
          have htb : decide ((tt : Int) < 1) = false := by simp; omega
          have htc : decide (tt < 1) = false := by simp; omega
          have hmod : ∀ (n : Nat) (z : Int), 0 < n → n ≤ 100000 → ∃ q : Nat, q < n ∧ (IntKind.u64.wrap z).tmod (n : Int) = (q : Int) := fun n z hn _ => by
            have h0 : 0 ≤ IntKind.u64.wrap z := by rw [IntKind.wrap_u64]; omega
            have hp : (0 : Int) < (n : Int) := by omega
            have h1 := Int.emod_nonneg (IntKind.u64.wrap z) (show (n : Int) ≠ 0 by omega)
            have h2 := Int.emod_lt_of_pos (IntKind.u64.wrap z) hp
            refine ⟨((IntKind.u64.wrap z).tmod (n : Int)).toNat, ?_, ?_⟩
            · rw [Int.tmod_eq_emod_of_nonneg h0]; omega
            · rw [Int.tmod_eq_emod_of_nonneg h0]; omega
          obtain ⟨q, hqn, hqe⟩ := hmod vn vv0 (by omega) (by omega)
          obtain ⟨r, hrn, hre⟩ := hmod tt st0 (by omega) (by omega)
          have hqw : IntKind.i64.wrap (q : Int) = (q : Int) := by rw [IntKind.wrap_i64]; omega
          have hrw : IntKind.i64.wrap (r : Int) = (r : Int) := by rw [IntKind.wrap_i64]; omega
          have hwN : IntKind.u64.wrap (vn : Int) = (vn : Int) := by rw [IntKind.wrap_u64]; omega
          have hwT : IntKind.u64.wrap (tt : Int) = (tt : Int) := by rw [IntKind.wrap_u64]; omega
          have hv0' : ¬ (vn : Int) = 0 := by omega
          have ht0' : ¬ (tt : Int) = 0 := by omega
          clear hmod
          obtain ⟨vb, vo, v, eA1, hvb, hlk, c0, c1, c2, c3, c4⟩ := Hrm4.out.2.1.at_ (k := q) hqn
          simp only at eA1
          subst eA1
          obtain ⟨vnm, venv, vsrt, vlo, vhi⟩ := v
          simp only at c0 c1 c2 c3 c4
          have hqv : ((q : Int) < (vn : Int)) := by omega
          obtain ⟨q0, _⟩ := row12 (mV_box Hrow4.out)
          simp only at q0
          have hmay : Dom.V.may ⟨vnm, venv, vsrt, vlo, vhi⟩ = 0 := Dom.mayL_all (mod_vars Hc.out) _ (List.mem_of_getElem? hlk)
          have hbv := (Below.refl w4.heap.size w4).alloc (Nat.le_refl _) (.cells #[.string vnm, .bool venv, .int .i64 vsrt, .int .i64 vlo, .int .i64 vhi] 48)
          have Hxb5 : Hid (Dom.Box5 (w4.alloc (.cells #[.string vnm, .bool venv, .int .i64 vsrt, .int .i64 vlo, .int .i64 vhi] 48)) w4.heap.size ⟨vnm, venv, vsrt, vlo, vhi⟩) := hide (Dom.box_new w4 ⟨vnm, venv, vsrt, vlo, vhi⟩ 48)
          have hz5' : (w4.alloc (.cells #[.string vnm, .bool venv, .int .i64 vsrt, .int .i64 vlo, .int .i64 vhi] 48)).heap.size = w4.heap.size + 1 := by simp
          have hsz := size_int hmay
          simp only at hsz
          have hz5 : w4.heap.size ≤ (w4.alloc (.cells #[.string vnm, .bool venv, .int .i64 vsrt, .int .i64 vlo, .int .i64 vhi] 48)).heap.size := hbv.size
          have Hb5 := hide (Hb4.out.trans (hbv.mono (by omega)))
          have Hrm5 := hide (Hrm4.out.below (hbv.mono (by omega)))
          have Hrc5 := hide (rc_below Hrc4.out (hbv.mono (by omega)))
          have Hrow5 := hide (Hrow4.out.of_block (hbv.block _ (by omega)))
          have Hcb5 := hide (Hcb4.out.below hbv (by omega))
          clear hbv Hb4 Hrm4 Hrc4 Hrow4 Hcb4
          have Hlk := hide hlk
          clear hlk hmay
          obtain ⟨x0, x1, x2, x3, x4⟩ := Hxb5.out
          simp only at x0 x1 x2 x3 x4
          obtain ⟨f0, f1, f2, f3⟩ := Hcb5.out
          cases venv
          · go_wp2_with fail
            refine (awake_any _).mono ?_
            rintro e y1 ⟨rfl, hby⟩
            go_wp2_with fail
            go_ret
            exact ⟨rfl, by rw [hN]; exact Hb5.out.trans (hby.mono (by omega))⟩
          · by_cases hsrt : vsrt = 2
            · subst hsrt
              obtain ⟨hs1, hs2, hs3⟩ := hsz rfl
              by_cases hhi : 1000 ≤ vhi
              · have hhb2 : decide (1000 ≤ vhi) = true := by simp [hhi]
                go_wp2_with fail
                refine (awake_any _).mono ?_
                rintro e y1 ⟨rfl, hby⟩
                go_wp2_with fail
                go_ret
                exact ⟨rfl, by rw [hN]; exact Hb5.out.trans (hby.mono (by omega))⟩
              · have hhb2 : decide (1000 ≤ vhi) = false := by simp; omega
                go_wp2_with fail
                clear x0 x1 x2 x3 x4 f0 f1 f2 f3 c0 c1 c2 c3 c4 q0 hhb2 hqe
                generalize hw5 : w4.alloc (.cells #[.string vnm, .bool true, .int .i64 2, .int .i64 vlo, .int .i64 vhi] 48) = w5 at *
                clear hw5
                generalize hXb : w4.heap.size = Xb at *
                have hss5 := Hrc5.out.2
                simp only at hss5
                have Hss5 := hide hss5
                clear hss5
                obtain ⟨i0, hi0, hi1, hi2, hi3⟩ := info_parts info50
                have Hi0 := hide hi0; have Hi1 := hide hi1; have Hi2 := hide hi2; have Hi3 := hide hi3
                clear hi0 hi1 hi2 hi3
                go_loopw [10, 73] (fun ov i wr => ∃ (k n cp : Nat) (O : Option Addr) (ks : List (List Value)), k ≤ tn ∧ i = .int .i64 k ∧ ov = .slice O n cp ∧ n ≤ k ∧ Hid (Chunk 5 (SetC w5 B) ks ((c.sets.take k).filter (fun s => s.var != (q : Int)))) ∧ Hid (wr.ownsRow w5.heap.size 50 5 (.slice O n cp) n ks.flatten) ∧ Hid (Below w5.heap.size w5 wr)) (fun _ i _ => tn - (intOf i).toNat)
                case atStart => exact ⟨0, 0, 0, none, [], by omega, rfl, rfl, Nat.le_refl _, hide Chunk.nil, hide ⟨rfl, .inl ⟨rfl, rfl⟩⟩, hide (Below.refl _ _)⟩
                case round =>
                  obtain ⟨k, n, cp, O, ks, hk, rfl, rfl, hn, Hch, How, Hb⟩ := hrel
                  have hzr := Hb.out.size
                  by_cases hlt : k < tn
                  · have hlt' : ((k : Int) < (tn : Int)) := by omega
                    have hbV := Hb.out.mono (show B ≤ w5.heap.size by omega)
                    obtain ⟨sb, sof, sx, eA2, hsb2, hku, ⟨c0, c1, ⟨so, sm, sO, sl2, sc2⟩, ⟨c2, c3, c4⟩, hes⟩⟩ := (Hss5.out.keep (w' := wr) (fun b o y h1 hy => SetAt.keep h1 hy (fun p hp => hbV.cell hp))).at_ (k := k) hlt
                    simp only at eA2 c2 c3 c4 hes
                    subst eA2
                    have Hfs := hide (filt_snoc hku (fun s => s.var != (q : Int)))
                    obtain ⟨de, hre2⟩ := hes
                    have Hex5 : Hid (EX w5 B ⟨so, sm, sO, sl2, sc2⟩ sx.e) := hide ⟨de, RE.keep (fun p hp => (hbV.cell hp).symm) _ _ _ _ _ _ _ hre2⟩
                    obtain ⟨z, pb, te⟩ := sx
                    simp only at c0 c1 Hex5 Hfs
                    clear hku hre2 hbV
                    have hbA := (Below.refl wr.heap.size wr).alloc (Nat.le_refl _) (.cells #[.int .i64 z, .bool pb, .int .i64 so, .int .i64 sm, .slice sO sl2 sc2] 50)
                    have Hset := hide (boxS_new wr z pb so sm sO sl2 sc2 50)
                    have How2 := hide (own_below How.out hbA)
                    have Hb6 := hide (Hb.out.trans (hbA.mono (by omega)))
                    have hs3 : (wr.alloc (.cells #[.int .i64 z, .bool pb, .int .i64 so, .int .i64 sm, .slice sO sl2 sc2] 50)).heap.size = wr.heap.size + 1 := by simp
                    obtain ⟨d0, d1, d2, d3, d4⟩ := Hset.out
                    clear hbA How Hb
                    by_cases hzq : z = (q : Int)
                    · subst hzq
                      rw [if_neg (by simp), List.append_nil] at Hfs
                      go_wp2_with fail
                      clear d0 d1 d2 d3 d4 c0 c1 c2 c3 c4
                      go_roundw
                      case rel => exact ⟨k + 1, n, cp, O, ks, by omega, by go_num, rfl, by omega, hide (by rw [Hfs.out]; exact Hch.out), How2, Hb6⟩
                      case measure => simp [intOf]; omega
                    · have hzb : (z != (q : Int)) = true := by simp [hzq]
                      rw [if_pos hzb] at Hfs
                      go_wp2_with (at_builtin; generalize wr.alloc (.cells #[.int .i64 z, .bool pb, .int .i64 so, .int .i64 sm, .slice sO sl2 sc2] 50) = w7 at *; refine wpList_append_lies _ rfl _ _ _ rfl w5.heap.size 50 i0 _ 5 56 Try.underlying29 Hi0.out Hi1.out Hi2.out Hi3.out rfl (by omega) (.slice O n cp) n ks.flatten rfl (How2.out.alloc _) ⟨wr.heap.size + 1, 0, none⟩ 1 1 [.int .i64 z, .bool pb, .int .i64 so, .int .i64 sm, .slice sO sl2 sc2] rfl rfl (by rw [← hs3]; exact World.news_of_block (cs := #[.int .i64 z, .bool pb, .int .i64 so, .int .i64 sm, .slice sO sl2 sc2]) (t := 50) (fr := (0, 0)) (heap_alloc_new w7 _)) (by simp [Value.oneCell']) (by omega) (by unfold maxLen; omega) (by omega) (by simp; omega) _ rfl ?_; intro g8 cap8 w8 hown8 hgrow8 hat8 hlt8)
                      have Hb8 := hide ((Hb6.out.alloc (by omega) _).grown hgrow8 (by simp; omega) (fun j hj => by have := (How2.out.lt j hj).1; omega))
                      have Ho8 := hide hown8
                      rw [← rows_flat_snoc] at Ho8
                      clear hown8 hgrow8 hat8 d0 d1 d2 d3 d4 c0 c1 c2 c3 c4
                      go_roundw
                      case rel => exact ⟨k + 1, n + 1, cap8, some ⟨g8, 0, none⟩, _, by omega, by go_num, rfl, by omega, hide (by rw [Hfs.out]; exact Hch.out.snoc rfl (by simp [Value.oneCell']) ⟨⟨so, sm, sO, sl2, sc2⟩, rfl, Hex5.out⟩), Ho8, Hb8⟩
                      case measure => simp [intOf]; omega
                  · have hlt' : ¬ ((k : Int) < (tn : Int)) := by omega
                    obtain rfl : k = tn := by omega
                    have Hch' : Hid (Chunk 5 (SetC w5 B) ks (c.sets.filter (fun s => s.var != (q : Int)))) := hide (by have h := Hch.out; have h2 := Hss5.out.1; simp only at h2; rw [← h2, List.take_length] at h; exact h)
                    have Hne : Hid (∀ s ∈ c.sets.filter (fun s => s.var != (q : Int)), s.var ≠ (q : Int)) := hide (fun s hs => by have := (List.mem_filter.1 hs).2; simpa using this)
                    have hbr := Hb.out
                    have Hxb6 := hide (Hxb5.out.below hbr (by omega))
                    have How6 := How
                    have HB6 := hide (hbr.mono (show B ≤ w5.heap.size by omega))
                    have hz6 := hbr.size
                    have Hb6 := hide (Hb5.out.trans (hbr.mono (by omega)))
                    have Hrm6 := hide (Hrm5.out.below (hbr.mono (by omega)))
                    have Hrc6 := hide (rc_below Hrc5.out (hbr.mono (by omega)))
                    have Hrow6 := hide (Hrow5.out.of_block (hbr.block _ (by omega)))
                    have Hcb6 := hide (Hcb5.out.below hbr (by omega))
                    clear hbr Hb5 Hrm5 Hrc5 Hrow5 Hcb5
                    clear Hch How Hb
                    obtain ⟨q0, _⟩ := row12 (mV_box Hrow6.out)
                    simp only at q0
                    go_wp2_with fail
                    clear q0
                    refine (Dom.total_any (some ⟨vb, vo, none⟩) vn vc B m.vars wr Ho.out.1 (by omega) Hrm6.out.2.1).mono ?_
                    rintro e w7 ⟨rfl, hb7⟩
                    have Hxb7 := hide (Hxb6.out.below hb7 (by omega))
                    have How7 := hide (own_below How6.out hb7)
                    have HB7 := hide (HB6.out.trans (hb7.mono (by omega)))
                    clear Hxb6 How6 HB6
                    have hz7 := hb7.size
                    have Hb7 := hide (Hb6.out.trans (hb7.mono (by omega)))
                    have Hrm7 := hide (Hrm6.out.below (hb7.mono (by omega)))
                    have Hrc7 := hide (rc_below Hrc6.out (hb7.mono (by omega)))
                    have Hrow7 := hide (Hrow6.out.of_block (hb7.block _ (by omega)))
                    have Hcb7 := hide (Hcb6.out.below hb7 (by omega))
                    clear hb7 Hb6 Hrm6 Hrc6 Hrow6 Hcb6
                    rw [Ht.out]
                    go_wp2_with fail
                    clear hre hrw hwT ht0'
                    refine fails_regionA (base := N) (nb := N) (cb := N + 1) (xb := Xb) (bs := (Value.slice O n cp).ownBlock.toList) (x := ⟨⟨some ⟨vb, vo, none⟩, vn, vc⟩, ⟨io, im, iA, il, ic⟩, ⟨jo, jm, jA, jl, jc⟩, ⟨eA, en, ec⟩, ⟨sA, sn, sc⟩, ⟨aA, an, ac⟩, ⟨nA, nn, nc⟩, ⟨pA, pn, pc⟩⟩) (v0 := ⟨vnm, true, 2, vlo, vhi⟩) (hv := vhi) (kv := (q : Int)) (xs := ks.flatten) (lA := O) (ln := n) (lc := cp) (op := yo) (nn := yn) (A := yA) (len := yl) (cap := yc) (tA := tA) (tn := k) (tc := tc) (by kernel_rfl) (by kernel_rfl) (by kernel_rfl) (by kernel_rfl) ⟨_, _, _, rfl⟩ ⟨_, _, _, rfl⟩ ⟨_, _, _, rfl⟩ ⟨_, _, _, rfl⟩ ⟨_, _, _, rfl⟩ ⟨_, _, _, rfl⟩ ⟨_, _, _, rfl⟩ ⟨_, _, _, rfl⟩ ⟨_, _, _, rfl⟩ ⟨_, _, _, rfl⟩ ⟨_, _, _, rfl⟩ ⟨_, _, _, rfl⟩ ⟨_, _, _, rfl⟩ ⟨_, _, _, rfl⟩ ⟨_, _, _, rfl⟩ ⟨_, _, _, rfl⟩ ⟨_, _, _, rfl⟩ (by simp) rfl rfl rfl rfl rfl Hcb7.out Hxb7.out rfl ⟨by omega, by omega⟩ Hrow7.out ⟨by omega, by omega⟩ ⟨by omega, by omega⟩ ⟨by omega, by omega⟩ (fun b hb => by have := How7.out.lt b (by simpa using hb); omega) (by omega) (by have := How7.out.1; omega) (own_nil How7.out) (own_cl How7.out) (Hch'.out.one) (by omega) ?_
                    intro u gcA g1 cp1 w8 hrow8 hgc hown hcb8 hxb8 hbs8 hb8
                    rw [sel_cons, sel_cons, sel_cons, sel_cons, sel_cons, sel_cons, sel_cons, sel_cons, sel_cons, sel_cons, sel_cons, sel_cons, sel_cons, sel_cons, sel_cons, sel_cons, sel_nil]
                    generalize u 94 = u94
                    generalize u 95 = u95
                    generalize u 96 = u96
                    generalize u 97 = u97
                    generalize u 98 = u98
                    generalize u 99 = u99
                    generalize u 100 = u100
                    generalize u 101 = u101
                    generalize u 102 = u102
                    generalize u 103 = u103
                    generalize u 104 = u104
                    generalize u 105 = u105
                    generalize u 106 = u106
                    generalize u 107 = u107
                    generalize u 108 = u108
                    generalize u 109 = u109
                    clear u
                    have hz8 := hb8.size
                    have Hb8 := hide (Hb7.out.trans hb8)
                    have Hrm8 := hide (Hrm7.out.below (hb8.mono (by omega)))
                    have Hrc8 := hide (rc_below Hrc7.out (hb8.mono (by omega)))
                    have HB8 := hide (HB7.out.trans (hb8.mono (by omega)))
                    have Hrow8 := hide (row_env (s := ⟨some ⟨gcA, 0, none⟩, 1, 1⟩) hrow8)
                    have Hcb8 := hide hcb8
                    have Hxb8 := hide hxb8
                    have How8 := hide (own_at How7.out (fun b hb => hbs8 b (by rw [hb]; simp)))
                    have HrmE := hide (rm_env (Hrm8.out.more (B' := w8.heap.size) (by omega)) (one_cmdG hgc Hrc8.out.1 (by omega) (sets_more (s := ⟨(q : Int), false, .mk 1 (vhi + 1) []⟩) (x := ⟨1, vhi + 1, none, 0, 0⟩) Hch'.out HB8.out (by omega) hown (leaf_ex _ _ _ _))))
                    simp only at Hrow8 HrmE
                    clear hrow8 hgc hown hcb8 hxb8 hbs8 hb8 Hb7 Hrm7 Hrc7 HB7 Hrow7 Hcb7 Hxb7 How7
                    obtain ⟨q0, q1, q2, q3, q4, q5, q6, q7, q8, q9, q10, q11⟩ := row12 (mV_box Hrow8.out)
                    simp only at q0 q1 q2 q3 q4 q5 q6 q7 q8 q9 q10 q11
                    go_simp
                    go_wp2_with fail
                    clear q0 q1 q2 q3 q4 q5 q6 q7 q8 q9 q10 q11
                    refine (denv_any w8.heap.size ⟨⟨some ⟨vb, vo, none⟩, vn, vc⟩, ⟨io, im, iA, il, ic⟩, ⟨jo, jm, jA, jl, jc⟩, ⟨some ⟨gcA, 0, none⟩, 1, 1⟩, ⟨sA, sn, sc⟩, ⟨aA, an, ac⟩, ⟨nA, nn, nc⟩, ⟨pA, pn, pc⟩⟩ _ (r : Int) w8 (Nat.le_refl _) HrmE.out).mono ?_
                    intro e w9 hp
                    obtain ⟨OA, nA, cA, rfl, p2, p3, p4⟩ := hp
                    rw [fails_env Hlk.out rfl Hne.out (fails_num (by show vlo + Dom.V.size ⟨vnm, true, 2, vlo, vhi⟩ ≤ vhi + 1; omega))] at p3
                    obtain rfl : 0 = nA := p3
                    have hz9 := p4.size
                    have Hb9 := hide (Hb8.out.trans (p4.mono (by omega)))
                    have Hrm9 := hide (Hrm8.out.below (p4.mono (by omega)))
                    have Hrc9 := hide (rc_below Hrc8.out (p4.mono (by omega)))
                    have HB9 := hide (HB8.out.trans (p4.mono (by omega)))
                    have Hrow9 := hide (Hrow8.out.of_block (p4.block _ (by omega)))
                    have Hcb9 := hide (Hcb8.out.below p4 (by omega))
                    have Hxb9 := hide (Hxb8.out.below p4 (by omega))
                    have How9 := hide (own_below How8.out p4)
                    clear p2 p4 HrmE Hb8 Hrm8 Hrc8 HB8 Hrow8 Hcb8 Hxb8 How8
                    go_wp2_with fail
                    refine fails_regionB (base := N) (nb := N) (cb := N + 1) (xb := Xb) (bs := (Value.slice O n cp).ownBlock.toList) (x := ⟨⟨some ⟨vb, vo, none⟩, vn, vc⟩, ⟨io, im, iA, il, ic⟩, ⟨jo, jm, jA, jl, jc⟩, ⟨some ⟨gcA, 0, none⟩, 1, 1⟩, ⟨sA, sn, sc⟩, ⟨aA, an, ac⟩, ⟨nA, nn, nc⟩, ⟨pA, pn, pc⟩⟩) (v0 := ⟨vnm, true, 2, vlo, vhi⟩) (hv := vhi) (kv := (q : Int)) (xs := ks.flatten) (lA := O) (ln := n) (lc := cp) (op := yo) (nn := yn) (A := yA) (len := yl) (cap := yc) (tA := tA) (tn := k) (tc := tc) (by kernel_rfl) (by kernel_rfl) (by kernel_rfl) (by kernel_rfl) ⟨_, _, _, rfl⟩ ⟨_, _, _, rfl⟩ ⟨_, _, _, rfl⟩ ⟨_, _, _, rfl⟩ ⟨_, _, _, rfl⟩ ⟨_, _, _, rfl⟩ ⟨_, _, _, rfl⟩ ⟨_, _, _, rfl⟩ ⟨_, _, _, rfl⟩ ⟨_, _, _, rfl⟩ ⟨_, _, _, rfl⟩ ⟨_, _, _, rfl⟩ ⟨_, _, _, rfl⟩ ⟨_, _, _, rfl⟩ ⟨_, _, _, rfl⟩ ⟨_, _, _, rfl⟩ ⟨_, _, _, rfl⟩ (by simp) rfl rfl rfl rfl rfl Hcb9.out Hxb9.out rfl ⟨by omega, by omega⟩ Hrow9.out ⟨by omega, by omega⟩ ⟨by omega, by omega⟩ ⟨by omega, by omega⟩ (fun b hb => by have := How9.out.lt b (by simpa using hb); omega) (by omega) (by have := How9.out.1; omega) (own_nil How9.out) (own_cl How9.out) (Hch'.out.one) (by omega) ?_
                    intro u gcB g1 cp1 gk w10 hrow10 hgc hown hgk hcb10 hxb10 hbs10 hb10
                    rw [sel_cons, sel_cons, sel_cons, sel_cons, sel_cons, sel_cons, sel_cons, sel_cons, sel_cons, sel_cons, sel_cons, sel_cons, sel_cons, sel_cons, sel_cons, sel_cons, sel_nil]
                    generalize u 113 = u113
                    generalize u 114 = u114
                    generalize u 115 = u115
                    generalize u 116 = u116
                    generalize u 117 = u117
                    generalize u 118 = u118
                    generalize u 119 = u119
                    generalize u 120 = u120
                    generalize u 121 = u121
                    generalize u 122 = u122
                    generalize u 123 = u123
                    generalize u 124 = u124
                    generalize u 125 = u125
                    generalize u 126 = u126
                    generalize u 127 = u127
                    generalize u 128 = u128
                    clear u
                    have hz10 := hb10.size
                    have Hb10 := hide (Hb9.out.trans hb10)
                    have Hrm10 := hide (Hrm9.out.below (hb10.mono (by omega)))
                    have Hrc10 := hide (rc_below Hrc9.out (hb10.mono (by omega)))
                    have HB10 := hide (HB9.out.trans (hb10.mono (by omega)))
                    have Hrow10 := hide (row_env (s := ⟨some ⟨gcB, 0, none⟩, 1, 1⟩) hrow10)
                    have Hcb10 := hide hcb10
                    have Hxb10 := hide hxb10
                    have How10 := hide (own_at How9.out (fun b hb => hbs10 b (by rw [hb]; simp)))
                    have HrmE := hide (rm_env (Hrm10.out.more (B' := w10.heap.size) (by omega)) (one_cmdG hgc Hrc10.out.1 (by omega) (sets_more (s := ⟨(q : Int), false, .mk 12 0 [.mk 1 1000 [], .mk 1 1 []]⟩) (x := ⟨12, 0, some ⟨gk, 0, none⟩, 2, 2⟩) Hch'.out HB10.out (by omega) hown (kids_ex hgk))))
                    simp only at Hrow10 HrmE
                    clear hrow10 hgc hown hgk hcb10 hxb10 hbs10 hb10 Hb9 Hrm9 Hrc9 HB9 Hrow9 Hcb9 Hxb9 How9
                    obtain ⟨q0, q1, q2, q3, q4, q5, q6, q7, q8, q9, q10, q11⟩ := row12 (mV_box Hrow10.out)
                    simp only at q0 q1 q2 q3 q4 q5 q6 q7 q8 q9 q10 q11
                    go_simp
                    go_wp2_with fail
                    clear q0 q1 q2 q3 q4 q5 q6 q7 q8 q9 q10 q11
                    refine (denv_any w10.heap.size ⟨⟨some ⟨vb, vo, none⟩, vn, vc⟩, ⟨io, im, iA, il, ic⟩, ⟨jo, jm, jA, jl, jc⟩, ⟨some ⟨gcB, 0, none⟩, 1, 1⟩, ⟨sA, sn, sc⟩, ⟨aA, an, ac⟩, ⟨nA, nn, nc⟩, ⟨pA, pn, pc⟩⟩ _ (r : Int) w10 (Nat.le_refl _) HrmE.out).mono ?_
                    intro e w11 hp
                    obtain ⟨OB, nB, cB, rfl, p2, p3, p4⟩ := hp
                    rw [fails_env Hlk.out rfl Hne.out (.inl fails_add)] at p3
                    obtain rfl : 0 = nB := p3
                    have hz11 := p4.size
                    have Hb11 := hide (Hb10.out.trans (p4.mono (by omega)))
                    have Hrm11 := hide (Hrm10.out.below (p4.mono (by omega)))
                    have Hrc11 := hide (rc_below Hrc10.out (p4.mono (by omega)))
                    have HB11 := hide (HB10.out.trans (p4.mono (by omega)))
                    have Hrow11 := hide (Hrow10.out.of_block (p4.block _ (by omega)))
                    have Hcb11 := hide (Hcb10.out.below p4 (by omega))
                    have Hxb11 := hide (Hxb10.out.below p4 (by omega))
                    have How11 := hide (own_below How10.out p4)
                    clear p2 p4 HrmE Hb10 Hrm10 Hrc10 HB10 Hrow10 Hcb10 Hxb10 How10
                    go_wp2_with fail
                    refine (awake_any _).mono ?_
                    rintro e y1 ⟨rfl, hby⟩
                    go_wp2_with fail
                    go_ret
                    exact ⟨rfl, by rw [hN]; exact Hb11.out.trans (hby.mono (by omega))⟩
            · have hsb : (vsrt != 2) = true := by simp [hsrt]
              go_wp2_with fail
              refine (awake_any _).mono ?_
              rintro e y1 ⟨rfl, hby⟩
              go_wp2_with fail
              go_ret
              exact ⟨rfl, by rw [hN]; exact Hb5.out.trans (hby.mono (by omega))⟩
end Go.Proofs.Ytohegmnfmomjaaa
