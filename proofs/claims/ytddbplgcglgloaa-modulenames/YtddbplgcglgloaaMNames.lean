/- The walk of ModuleNames. -/
import Derived.Test.YtddbplgcglgloaaMNamesB
namespace Go.Proofs.Ytddbplgcglgloaa
open Go.RowKit Ex
open Go.Sort (grow)
set_option linter.unusedSimpArgs false
set_option linter.unusedVariables false

theorem row_vars {w : World} {g : Nat} {x : M8} {s : SL} (h : w.rowIs g 28 12 (fun i => if i = 0 then s.v else mV x i)) : w.rowIs g 28 12 (mV { x with vars := s }) :=
  h.congr (fun i hi => by
    have h : i = 0 ∨ i = 1 ∨ i = 2 ∨ i = 3 ∨ i = 4 ∨ i = 5 ∨ i = 6 ∨ i = 7 ∨ i = 8 ∨ i = 9 ∨ i = 10 ∨ i = 11 := by omega
    rcases h with rfl | rfl | rfl | rfl | rfl | rfl | rfl | rfl | rfl | rfl | rfl | rfl <;> rfl)
theorem rm_vars {w : World} {B : Nat} {x : M8} {m : MT} {s : SL} {l : List Dom.V} (h : RM w B x m) (ho : OkVars s l) (hs : Dom.RV w B s.A s.n l) : RM w B { x with vars := s } { m with vars := l } :=
  ⟨ho, hs, h.2.2.1, h.2.2.2.1, h.2.2.2.2.1, h.2.2.2.2.2.1, h.2.2.2.2.2.2.1, h.2.2.2.2.2.2.2.1, h.2.2.2.2.2.2.2.2⟩
theorem own_cap {w : World} {base e sz n c g : Nat} {xs : List Value} (h : w.ownsRow base e sz (.slice (some ⟨g, 0, none⟩) n c) n xs) : n ≤ c ∧ c ≤ maxLen := by
  rcases h.2 with ⟨e1, _⟩ | ⟨g3, cap3, cur, e1, _, _, h2, h3, _⟩
  · cases e1
  · injection e1 with _ _ e3; subst e3; exact ⟨h2, h3⟩
theorem own_frozen {w : World} {base e sz n c g : Nat} {xs : List Value} (h : w.ownsRow base e sz (.slice (some ⟨g, 0, none⟩) n c) n xs) (j : Nat) : w.frozen? ⟨g, j, none⟩ = false := by
  rcases h.2 with ⟨e1, _⟩ | ⟨g3, cap3, cur, e1, _, h2, _⟩
  · cases e1
  · injection e1 with e2
    injection e2 with e2
    injection e2 with e2
    subst e2
    exact frozen_of_row _ _ _ _ _ h2
theorem ren_vars {w : World} {B n g q : Nat} {l : List Dom.V} {v : Dom.V} {nm : ByteArray} (h : Dom.RV w B (some ⟨g, 0, none⟩) n l) (hq : l[q]? = some v) : Dom.RV (w.setCell ⟨g, q * 5, none⟩ (.string nm)) B (some ⟨g, 0, none⟩) n (l.set q { v with nm := nm }) := by
  refine ⟨by simpa using h.1, fun hn => ?_⟩
  obtain ⟨b, off, e, hb, hc⟩ := h.2 hn
  injection e with e
  injection e with e1 e2
  subst e1; subst e2
  refine ⟨g, 0, rfl, hb, fun k y hy => ?_⟩
  have oth : ∀ o, o ≠ q * 5 → (w.setCell ⟨g, q * 5, none⟩ (.string nm)).cell? ⟨g, o, none⟩ = w.cell? ⟨g, o, none⟩ := fun o ho => World.cell?_setCell_other _ _ _ _ (fun e => by injection e with _ e; exact ho e.symm)
  rw [Nat.zero_add]
  by_cases e : k = q
  · subst e
    have hy' : y = { v with nm := nm } := by
      rw [List.getElem?_set_self (List.getElem?_eq_some_iff.1 hq).1] at hy
      exact (Option.some.inj hy).symm
    subst hy'
    have h0 := hc k v hq
    rw [Nat.zero_add] at h0
    obtain ⟨c0, c1, c2, c3, c4⟩ := h0
    exact ⟨World.cell?_setCell_same _ _ _ c0, (oth _ (by omega)).trans c1, (oth _ (by omega)).trans c2, (oth _ (by omega)).trans c3, (oth _ (by omega)).trans c4⟩
  · rw [List.getElem?_set_ne (fun h => e h.symm)] at hy
    have h0 := hc k y hy
    rw [Nat.zero_add] at h0
    obtain ⟨c0, c1, c2, c3, c4⟩ := h0
    exact ⟨(oth _ (by omega)).trans c0, (oth _ (by omega)).trans c1, (oth _ (by omega)).trans c2, (oth _ (by omega)).trans c3, (oth _ (by omega)).trans c4⟩

theorem ok_set {A : Option Addr} {l : List Dom.V} {g n c c0 q : Nat} {v : Dom.V} (h : OkVars ⟨A, n, c0⟩ l) (h1 : n ≤ c) (h2 : c ≤ maxLen) (hq : l[q]? = some v) : OkVars ⟨some ⟨g, 0, none⟩, n, c⟩ (l.set q { v with nm := ⟨#[113, 95, 55]⟩ }) := by
  refine ⟨h.1, h1, h2, fun x hx => ?_⟩
  rcases List.mem_or_eq_of_mem_set hx with hx | hx
  · exact h.2.2.2 x hx
  · subst hx
    show (3 : Nat) ≤ maxLen
    unfold maxLen; omega
theorem ok_snoc {A : Option Addr} {l : List Dom.V} {g n c c0 q : Nat} {v : Dom.V} (h : OkVars ⟨A, n, c0⟩ l) (h1 : n + 1 ≤ c) (h2 : c ≤ maxLen) (hq : l[q]? = some v) : OkVars ⟨some ⟨g, 0, none⟩, n + 1, c⟩ (l ++ [v]) := by
  refine ⟨Nat.le_trans h1 h2, h1, h2, fun x hx => ?_⟩
  rcases List.mem_append.1 hx with hx | hx
  · exact h.2.2.2 x hx
  · simp at hx; subst hx
    exact h.2.2.2 _ (List.mem_of_getElem? hq)

set_option maxRecDepth 100000 in
set_option maxHeartbeats 8000000 in
theorem mnames_any (B : Nat) (x : M8) (m : MT) (kk : Int) (w : World) (hB : B ≤ w.heap.size) (hrm : RM w B x m) :
    Calls Try.prog 6 #[.agg x.cells, .int .i64 kk] w fun e w' => e = .returned (.bool true) ∧ Below w.heap.size w w' := by
  have hbx := (Below.refl w.heap.size w).alloc (Nat.le_refl _) (.cells x.cells 28)
  have Hrm0 := hide (hrm.below (hbx.mono hB))
  have Hbx0 := hide (boxM_new w x)
  have Hb0 := hide hbx
  have hz0 : w.heap.size + 1 ≤ (w.alloc (.cells x.cells 28)).heap.size := by simp
  clear hrm hbx
  obtain ⟨⟨vA, vn, vc⟩, ⟨io, im, iA, il, ic⟩, ⟨jo, jm, jA, jl, jc⟩, ⟨eA, en, ec⟩, ⟨sA, sn, sc⟩, ⟨aA, an, ac⟩, ⟨nA, nn, nc⟩, ⟨pA, pn, pc⟩⟩ := x
  simp only [M8.cells, SL.v] at *
  obtain ⟨q0, q1, q2, q3, q4, q5, q6, q7, q8, q9, q10, q11⟩ := Hbx0.out.all
  simp only at q0 q1 q2 q3 q4 q5 q6 q7 q8 q9 q10 q11
  obtain ⟨h1a, h1b⟩ := hvM_bd m
  have hvm : vn ≤ 2 ^ 63 - 1 := Hrm0.out.1.1
  have Hvl : Hid (m.vars.length = vn) := hide Hrm0.out.2.1.1
  go_enter Try.func6, Try.ntmps6
  go_wp2_with fail
  clear q0 q1 q2 q3 q4 q5 q6 q7 q8 q9 q10 q11
  generalize hW : w.alloc (.cells #[.slice vA vn vc, .int .i64 io, .int .i64 im, .slice iA il ic, .int .i64 jo, .int .i64 jm, .slice jA jl jc, .slice eA en ec, .slice sA sn sc, .slice aA an ac, .slice nA nn nc, .slice pA pn pc] 28) = w0 at *
  clear hW
  generalize hN : w.heap.size = N at *
  refine (hvx_any B ⟨⟨vA, vn, vc⟩, ⟨io, im, iA, il, ic⟩, ⟨jo, jm, jA, jl, jc⟩, ⟨eA, en, ec⟩, ⟨sA, sn, sc⟩, ⟨aA, an, ac⟩, ⟨nA, nn, nc⟩, ⟨pA, pn, pc⟩⟩ m w0 (by omega) Hrm0.out).mono ?_
  rintro e w1 ⟨rfl, hb1⟩
  have hz1 := hb1.size
  have Hb1 := hide (Hb0.out.trans (hb1.mono (by omega)))
  have Hrm1 := hide (Hrm0.out.below (hb1.mono (by omega)))
  have Hbx1 := hide (Hbx0.out.below hb1 (by omega))
  clear hb1 Hb0 Hrm0 Hbx0
  by_cases hh : 0 < hvM m
  · have hhb : decide (0 < hvM m) = true := by simp [hh]
    go_wp2_with fail
    refine (awake_any _).mono ?_
    rintro e y1 ⟨rfl, hby⟩
    go_wp2_with fail
    go_ret
    exact ⟨rfl, by rw [hN]; exact Hb1.out.trans (hby.mono (by omega))⟩
  · have hhb : decide (0 < hvM m) = false := by simp; omega
    obtain ⟨q0, q1, q2, q3, q4, q5, q6, q7, q8, q9, q10, q11⟩ := Hbx1.out.all
    simp only at q0 q1 q2 q3 q4 q5 q6 q7 q8 q9 q10 q11
    go_wp2_with fail
    clear q0 q1 q2 q3 q4 q5 q6 q7 q8 q9 q10 q11
    refine (dmod_any B ⟨⟨vA, vn, vc⟩, ⟨io, im, iA, il, ic⟩, ⟨jo, jm, jA, jl, jc⟩, ⟨eA, en, ec⟩, ⟨sA, sn, sc⟩, ⟨aA, an, ac⟩, ⟨nA, nn, nc⟩, ⟨pA, pn, pc⟩⟩ m w1 (by omega) Hrm1.out).mono ?_
    rintro e w2 ⟨rfl, hb2⟩
    have hz2 := hb2.size
    have Hb2 := hide (Hb1.out.trans (hb2.mono (by omega)))
    have Hrm2 := hide (Hrm1.out.below (hb2.mono (by omega)))
    have Hbx2 := hide (Hbx1.out.below hb2 (by omega))
    clear hb2 Hb1 Hrm1 Hbx1 hhb hh h1a h1b
    by_cases hc : modE m = 0
    · have hcb : (modE m != 0) = false := by simp [hc]
      have Hcm := hide hc
      clear hc
      obtain ⟨q0, q1, q2, q3, q4, q5, q6, q7, q8, q9, q10, q11⟩ := Hbx2.out.all
      simp only at q0 q1 q2 q3 q4 q5 q6 q7 q8 q9 q10 q11
      go_wp2_with fail
      clear q0 q1 q2 q3 q4 q5 q6 q7 q8 q9 q10 q11
      refine (rmod_any B ⟨⟨vA, vn, vc⟩, ⟨io, im, iA, il, ic⟩, ⟨jo, jm, jA, jl, jc⟩, ⟨eA, en, ec⟩, ⟨sA, sn, sc⟩, ⟨aA, an, ac⟩, ⟨nA, nn, nc⟩, ⟨pA, pn, pc⟩⟩ m w2 (by omega) Hrm2.out).mono ?_
      rintro e w3 ⟨rfl, hb3⟩
      have hz3 := hb3.size
      have Hb3 := hide (Hb2.out.trans (hb3.mono (by omega)))
      have Hrm3 := hide (Hrm2.out.below (hb3.mono (by omega)))
      have Hbx3 := hide (Hbx2.out.below hb3 (by omega))
      clear hb3 Hb2 Hrm2 Hbx2
      have hlen6 : vn ≤ 6 := by
        have := Dom.totL_len (Dom.mayL_zero ((modE_iff m).1 Hcm.out).1).2
        rw [Hvl.out] at this; exact this
      obtain ⟨q0, _⟩ := Hbx3.out.all
      simp only at q0
      by_cases hv0 : vn = 0
      · have hvb : ((vn : Int) == 0) = true := by simp [hv0]
        have hvn : (vn == 0) = true := by simp [hv0]
        clear hv0
        go_wp2_with fail
        refine (awake_any _).mono ?_
        rintro e y1 ⟨rfl, hby⟩
        go_wp2_with fail
        go_ret
        exact ⟨rfl, by rw [hN]; exact Hb3.out.trans (hby.mono (by omega))⟩
      · have hvb : ((vn : Int) == 0) = false := by simp; omega
        have hvn : (vn == 0) = false := by simp; omega
        have hwN : IntKind.u64.wrap (vn : Int) = (vn : Int) := by rw [IntKind.wrap_u64]; omega
        obtain ⟨q, hqn, hqe⟩ : ∃ q : Nat, q < vn ∧ (IntKind.u64.wrap kk).tmod (vn : Int) = (q : Int) := by
          have h0 : 0 ≤ IntKind.u64.wrap kk := by rw [IntKind.wrap_u64]; omega
          have hp : (0 : Int) < (vn : Int) := by omega
          have h1 := Int.emod_nonneg (IntKind.u64.wrap kk) (show (vn : Int) ≠ 0 by omega)
          have h2 := Int.emod_lt_of_pos (IntKind.u64.wrap kk) hp
          refine ⟨((IntKind.u64.wrap kk).tmod (vn : Int)).toNat, ?_, ?_⟩
          · rw [Int.tmod_eq_emod_of_nonneg h0]; omega
          · rw [Int.tmod_eq_emod_of_nonneg h0]; omega
        have hqw : IntKind.i64.wrap (q : Int) = (q : Int) := by rw [IntKind.wrap_i64]; omega
        have hv0' : ¬ (vn : Int) = 0 := by omega
        go_wp2_with fail
        clear q0 hcb hvb hvn hwN hqe hqw hv0'
        have Hbm3 := Hbx3
        refine copies (n := 2) (src := 2) (b := N) (x := ⟨⟨vA, vn, vc⟩, ⟨io, im, iA, il, ic⟩, ⟨jo, jm, jA, jl, jc⟩, ⟨eA, en, ec⟩, ⟨sA, sn, sc⟩, ⟨aA, an, ac⟩, ⟨nA, nn, nc⟩, ⟨pA, pn, pc⟩⟩) (fun j => 36 + j) (fun j => 5 + j) [36, 37, 5, 6] (by kernel_rfl) (by kernel_rfl) ?_ ?_ ?_ (fun j o ho => (ownAc_spec (by kernel_rfl) j o ho).1) ?_ (by decide) (fun i j hi hj => by omega) (fun i j hi hj hne => by omega) rfl Hbm3.out (by omega) ?_
        · intro j hj
          have h : j = 0 ∨ j = 1 := by omega
          rcases h with rfl | rfl <;> exact ⟨_, _, _, rfl⟩
        · intro j hj
          have h : j = 0 ∨ j = 1 := by omega
          rcases h with rfl | rfl <;> exact ⟨_, _, _, rfl⟩
        · intro j hj
          have h : j = 0 ∨ j = 1 := by omega
          rcases h with rfl | rfl
          · exact ⟨_, _, _, rfl, ⟨⟨0, .data⟩, by simp, rfl, by kernel_rfl⟩, ⟨⟨2, .data⟩, by simp, rfl, by kernel_rfl⟩⟩
          · exact ⟨_, _, _, rfl, ⟨⟨1, .data⟩, by simp, rfl, by kernel_rfl⟩, ⟨⟨3, .data⟩, by simp, rfl, by kernel_rfl⟩⟩
        · intro j hj
          have h : j = 0 ∨ j = 1 := by omega
          rcases h with rfl | rfl <;> exact ⟨by simp, by simp, by simp, by simp⟩
        intro v p w6 hv hpp hb6
        obtain ⟨l0, d0, p00, p01, hp0⟩ := hv 0 (by omega)
        obtain ⟨l1, d1, p10, p11, hp1⟩ := hv 1 (by omega)
        simp only [Nat.add_zero, Nat.reduceAdd] at l0 l1 d0 d1
        have n01 := hpp 0 1 (by omega) (by omega) (by omega)
        generalize p 0 = g0 at *
        generalize p 1 = g1 at *
        rw [sel_cons, sel_cons, sel_cons, sel_cons, sel_nil, l0, l1, d0, d1]
        clear hv hpp l0 l1 d0 d1 v p
        have hz6 := hb6.size
        have Hp0 := hide hp0; have Hp1 := hide hp1
        have Hrm6 := hide (Hrm3.out.below (hb6.mono (by omega)))
        have Hbx6 := hide (Hbm3.out.below hb6 (by omega))
        have Hb6 := hide (Hb3.out.trans (hb6.mono (by omega)))
        clear hp0 hp1 hb6 Hrm3 Hb3 Hbm3 Hbx3
        simp only [M8.cells, SL.v]
        go_simp
        go_wp2_with fail
        obtain ⟨vb, vo, vk, eAv, hvb2, hvq, hcell⟩ := Hrm6.out.2.1.at_ (k := q) hqn
        simp only at eAv
        subst eAv
        obtain ⟨ks, hch, hcells⟩ := vars_chunk Hrm6.out.2.1 (by show 0 < vn; omega)
        have Hch := hide hch
        have Hcells := hide hcells
        have Hvq := hide hvq
        have Hcell := hide hcell
        clear hch hcells hvq hcell
        have Hlen : Hid (ks.flatten.length = vn * 5) := hide (by rw [Hch.out.len, Hvl.out])
        obtain ⟨q0, _⟩ := Hbx6.out.all
        simp only at q0
        refine names_region (base := w3.heap.size) (nb := N) (vb := vb) (vo := vo) (vn := vn) (vc := vc) (q := q) (g0 := g0) (g1 := g1) (x := ⟨⟨some ⟨vb, vo, none⟩, vn, vc⟩, ⟨io, im, iA, il, ic⟩, ⟨jo, jm, jA, jl, jc⟩, ⟨eA, en, ec⟩, ⟨sA, sn, sc⟩, ⟨aA, an, ac⟩, ⟨nA, nn, nc⟩, ⟨pA, pn, pc⟩⟩) (vk := vk) (xs := ks.flatten) (by kernel_rfl) (by kernel_rfl) (by kernel_rfl) (by kernel_rfl) ⟨_, _, _, rfl⟩ ⟨_, _, _, rfl⟩ ⟨_, _, _, rfl⟩ ⟨_, _, _, rfl⟩ ⟨_, _, _, rfl⟩ ⟨_, _, _, rfl⟩ ⟨_, _, _, rfl⟩ ⟨_, _, _, rfl⟩ ⟨_, _, _, rfl⟩ ⟨_, _, _, rfl⟩ ⟨_, _, _, rfl⟩ ⟨_, _, _, rfl⟩ ⟨_, _, _, rfl⟩ ⟨_, _, _, rfl⟩ ⟨_, _, _, rfl⟩ ⟨_, _, _, rfl⟩ ⟨_, _, _, rfl⟩ ⟨_, _, _, rfl⟩ ⟨_, _, _, rfl⟩ (by simp) rfl rfl rfl rfl q0 (by omega) (by omega) Hcell.out hqn Hlen.out Hcells.out Hch.out.one (by omega) (by omega) ⟨p00, p01⟩ ⟨p10, p11⟩ n01 Hp0.out Hp1.out ?_
        intro u gv cap gt cap2 w8 hrow0 how0 hrow1 how1 n1 n2 n3 n4 n5 hb8
        rw [sel_cons, sel_cons, sel_cons, sel_cons, sel_cons, sel_cons, sel_cons, sel_cons, sel_cons, sel_cons, sel_cons, sel_cons, sel_cons, sel_cons, sel_cons, sel_cons, sel_cons, sel_nil]
        generalize u 38 = u38
        generalize u 39 = u39
        generalize u 40 = u40
        generalize u 41 = u41
        generalize u 42 = u42
        generalize u 43 = u43
        generalize u 44 = u44
        generalize u 45 = u45
        generalize u 46 = u46
        generalize u 47 = u47
        generalize u 48 = u48
        generalize u 49 = u49
        generalize u 50 = u50
        generalize u 51 = u51
        generalize u 52 = u52
        generalize u 53 = u53
        generalize u 54 = u54
        clear u q0
        have hz8 := hb8.size
        have Hrow0 := hide hrow0
        have How0 := hide how0
        have Hrow1 := hide hrow1
        have How1 := hide how1
        have Hrm8 := hide (Hrm6.out.below (hb8.mono (by omega)))
        have Hbx8 := hide (Hbx6.out.below hb8 (by omega))
        have Hb8 := hide (Hb6.out.trans (hb8.mono (by omega)))
        have Hrv0 := hide (own_vars how0 Hch.out)
        have hgv := blk_own how0
        have hgt := blk_own how1
        have hcap := own_cap how0
        have hcap2 := own_cap how1
        have zf := own_frozen how0 (q * 5)
        obtain ⟨_, _, v9, e9, _, hv9, c9⟩ := Hrv0.out.at_ (k := q) hqn
        injection e9 with e9
        injection e9 with e91 e92
        subst e91; subst e92
        rw [Hvq.out] at hv9
        obtain rfl := Option.some.inj hv9
        rw [Nat.zero_add] at c9
        obtain ⟨c90, _⟩ := c9
        have r0 : w8.cell? ⟨g0, 0, none⟩ = some (.slice (some ⟨gv, 0, none⟩) vn cap) := hrow0.cell (i := 0) (by omega)
        have hqn' : (q : Int) < (vn : Int) := by omega
        have hb9 : Below w3.heap.size w8 (w8.setCell ⟨gv, q * 5, none⟩ (.string q7)) := (Below.refl _ _).setCell (by show w3.heap.size ≤ gv; omega) _
        have hz9 : (w8.setCell ⟨gv, q * 5, none⟩ (.string q7)).heap.size = w8.heap.size := by simp [World.setCell]
        have hz9a := Nat.le_of_eq hz9
        have hz9b := Nat.le_of_eq hz9.symm
        have HrenV := hide (ren_vars (nm := q7) Hrv0.out Hvq.out)
        have HrowA := hide (mV_box (row_vars (s := ⟨some ⟨gv, 0, none⟩, vn, cap⟩) (hrow0.of_block (w' := w8.setCell ⟨gv, q * 5, none⟩ (.string q7)) (Below.heap_setCell _ _ _ _ (by show g0 ≠ gv; omega)))))
        have HrowT := hide (mV_box (row_vars (s := ⟨some ⟨gt, 0, none⟩, vn + 1, cap2⟩) (hrow1.of_block (w' := w8.setCell ⟨gv, q * 5, none⟩ (.string q7)) (Below.heap_setCell _ _ _ _ (by show g1 ≠ gv; omega)))))
        have HownT : Hid ((w8.setCell ⟨gv, q * 5, none⟩ (.string q7)).ownsRow w3.heap.size 42 5 (.slice (some ⟨gt, 0, none⟩) (vn + 1) cap2) (vn + 1) (ks ++ [vcells vk]).flatten) := hide (by
          rw [flat_snoc]
          obtain ⟨cap', e, h⟩ := OwnR.keep (w' := w8.setCell ⟨gv, q * 5, none⟩ (.string q7)) ⟨cap2, rfl, how1⟩ (Below.heap_setCell _ _ _ _ (by show gt ≠ gv; omega))
          exact h)
        have Hrm9 := hide (Hrm8.out.below (hb9.mono (by omega)))
        have Hbx9 := hide (Hbx8.out.below hb9 (by omega))
        have Hb9 := hide (Hb8.out.trans (hb9.mono (by omega)))
        have Hcell9 := hide ((Hcell.out.keep (w' := w8) (fun p hp => hb8.cell (by rw [hp]; omega))).keep (w' := w8.setCell ⟨gv, q * 5, none⟩ (.string q7)) (fun p hp => hb9.cell (by rw [hp]; omega)))
        have HchT : Hid (Chunk 5 VarC (ks ++ [vcells vk]) (m.vars ++ [vk])) := hide (Chunk.snoc Hch.out rfl (by simp [vcells, Value.oneCell']) rfl)
        clear hrow0 how0 hrow1 how1 hb8 hb9 hz9 Hrow0 How0 Hrow1 How1 Hrm8 Hbx8 Hb8 Hrv0 Hcell Hcells Hch Hlen Hp0 Hp1 Hrm6 Hbx6 Hb6
        obtain ⟨q0, _⟩ := Hbx9.out.all
        simp only at q0
        obtain ⟨nm0, _⟩ := Hcell9.out
        unfold q7 at *
        go_simp
        go_wp2_with fail
        have Hok := hide Hrm9.out.1
        have HX1 : Hid (∀ w', Below (w8.setCell ⟨gv, q * 5, none⟩ (.string ⟨#[113, 95, 55]⟩)).heap.size (w8.setCell ⟨gv, q * 5, none⟩ (.string ⟨#[113, 95, 55]⟩)) w' → Below N w w') := hide (fun w' h => Hb9.out.trans (h.mono (by omega)))
        clear q0 nm0 r0 c90 zf
        have HM1 := hide (rm_vars (s := ⟨some ⟨gv, 0, none⟩, vn, cap⟩) (l := m.vars.set q { vk with nm := ⟨#[113, 95, 55]⟩ }) (Hrm9.out.more (B' := (w8.setCell ⟨gv, q * 5, none⟩ (.string ⟨#[113, 95, 55]⟩)).heap.size) (by omega)) (ok_set Hok.out hcap.1 hcap.2 Hvq.out) (HrenV.out.more (by omega)))
        have HM2 := hide (rm_vars (s := ⟨some ⟨gt, 0, none⟩, vn + 1, cap2⟩) (l := m.vars ++ [vk]) (Hrm9.out.more (B' := (w8.setCell ⟨gv, q * 5, none⟩ (.string ⟨#[113, 95, 55]⟩)).heap.size) (by omega)) (ok_snoc Hok.out hcap2.1 hcap2.2 Hvq.out) (own_vars HownT.out HchT.out))
        simp only at HM1 HM2
        generalize w8.setCell ⟨gv, q * 5, none⟩ (.string ⟨#[113, 95, 55]⟩) = X at *
        refine (Dom.rfind_any (some ⟨vb, vo, none⟩) vn vc B m.vars _ X (by unfold maxLen; omega) (by omega) Hrm9.out.2.1).mono ?_
        rintro e x1 ⟨rfl, hb1⟩
        have hzx1 := hb1.size
        have Hx1 := hide hb1
        clear hb1
        have Hneg : Hid (Dom.findGo (ByteArray.toList ⟨#[113, 95, 55]⟩) 0 m.vars < 0 → ∀ v ∈ m.vars, (v.nm.toList == ByteArray.toList ⟨#[113, 95, 55]⟩) = false) := hide (findGo_neg _ _ _)
        have Hsm : Hid ((vk.nm.data == (⟨#[113, 95, 55]⟩ : ByteArray).data) = (vk.nm.toList == [113, 95, 55])) := hide (by
          rw [show (vk.nm.data == (⟨#[113, 95, 55]⟩ : ByteArray).data) = (vk.nm == (⟨#[113, 95, 55]⟩ : ByteArray)) from rfl, beq_toListBytes, ByteArray.toList_eq ⟨#[113, 95, 55]⟩])
        have Hnm : Hid ((vk.nm.toList == [113, 95, 55]) = true → vk.nm = (⟨#[113, 95, 55]⟩ : ByteArray)) := hide (fun h => by
          rw [← Hsm.out] at h
          have h2 : vk.nm.data = #[113, 95, 55] := by simpa using h
          cases hv : vk.nm with
          | mk d => rw [hv] at h2; simp only at h2; rw [h2])
        have Hall : Hid (Dom.findGo (ByteArray.toList ⟨#[113, 95, 55]⟩) 0 m.vars < 0 → ∀ x ∈ m.vars, x.nm.data ≠ (⟨#[113, 95, 55]⟩ : ByteArray).data) := hide (fun h x hx e => by
          have h2 := Hneg.out h x hx
          rw [← beq_toListBytes] at h2
          have h3 : (x.nm == (⟨#[113, 95, 55]⟩ : ByteArray)) = true := by
            show (x.nm.data == (⟨#[113, 95, 55]⟩ : ByteArray).data) = true
            rw [e]; simp
          rw [h3] at h2; cases h2)
        generalize Dom.findGo (ByteArray.toList ⟨#[113, 95, 55]⟩) 0 m.vars = f at *
        have HL : Hid ((vk.nm = (⟨#[113, 95, 55]⟩ : ByteArray) ∨ ∀ x ∈ m.vars, x.nm.data ≠ (⟨#[113, 95, 55]⟩ : ByteArray).data) → modE { m with vars := m.vars.set q { vk with nm := ⟨#[113, 95, 55]⟩ } } = 0 ∧ modS m { m with vars := m.vars.set q { vk with nm := ⟨#[113, 95, 55]⟩ } } = (vk.nm.toList == [113, 95, 55]) ∧ modE { m with vars := m.vars ++ [vk] } = 3) := hide (fun h => by
          have h2 := names_laws (q := ⟨#[113, 95, 55]⟩) Hcm.out Hvq.out q7_name h
          rw [Hsm.out] at h2
          exact h2)
        generalize hsm : (vk.nm.toList == [113, 95, 55]) = sm at *
        clear hsm
        by_cases hf : 0 ≤ f
        · have hfb : decide (0 ≤ f) = true := by simp [hf]
          cases sm
          · go_wp2_with fail
            refine (awake_any _).mono ?_
            rintro e y1 ⟨rfl, hby⟩
            go_wp2_with fail
            go_ret
            exact ⟨rfl, by rw [hN]; exact HX1.out _ (Hx1.out.trans (hby.mono (by omega)))⟩
          · have HL2 := hide (HL.out (.inl (Hnm.out rfl)))
            obtain ⟨r0, r1, r2, r3, r4, r5, r6, r7, r8, r9, r10, r11⟩ := (HrowA.out.below Hx1.out (by omega)).all
            simp only at r0 r1 r2 r3 r4 r5 r6 r7 r8 r9 r10 r11
            go_wp2_with fail
            clear r0 r1 r2 r3 r4 r5 r6 r7 r8 r9 r10 r11
            refine (dmod_any X.heap.size ⟨⟨some ⟨gv, 0, none⟩, vn, cap⟩, ⟨io, im, iA, il, ic⟩, ⟨jo, jm, jA, jl, jc⟩, ⟨eA, en, ec⟩, ⟨sA, sn, sc⟩, ⟨aA, an, ac⟩, ⟨nA, nn, nc⟩, ⟨pA, pn, pc⟩⟩ _ x1 (by omega) (HM1.out.below Hx1.out)).mono ?_
            rintro e x2 ⟨rfl, hb2⟩
            have hzx2 := hb2.size
            rw [HL2.out.1]
            have Hx2 := hide (Hx1.out.trans (hb2.mono (by omega)))
            clear hb2
            obtain ⟨r0, r1, r2, r3, r4, r5, r6, r7, r8, r9, r10, r11⟩ := (HrowA.out.below Hx2.out (by omega)).all
            simp only at r0 r1 r2 r3 r4 r5 r6 r7 r8 r9 r10 r11
            obtain ⟨q0, q1, q2, q3, q4, q5, q6, q7, q8, q9, q10, q11⟩ := (Hbx9.out.below Hx2.out (by omega)).all
            simp only at q0 q1 q2 q3 q4 q5 q6 q7 q8 q9 q10 q11
            go_wp2_with fail
            clear r0 r1 r2 r3 r4 r5 r6 r7 r8 r9 r10 r11 q0 q1 q2 q3 q4 q5 q6 q7 q8 q9 q10 q11
            refine (dsame_any X.heap.size ⟨⟨some ⟨vb, vo, none⟩, vn, vc⟩, ⟨io, im, iA, il, ic⟩, ⟨jo, jm, jA, jl, jc⟩, ⟨eA, en, ec⟩, ⟨sA, sn, sc⟩, ⟨aA, an, ac⟩, ⟨nA, nn, nc⟩, ⟨pA, pn, pc⟩⟩ ⟨⟨some ⟨gv, 0, none⟩, vn, cap⟩, ⟨io, im, iA, il, ic⟩, ⟨jo, jm, jA, jl, jc⟩, ⟨eA, en, ec⟩, ⟨sA, sn, sc⟩, ⟨aA, an, ac⟩, ⟨nA, nn, nc⟩, ⟨pA, pn, pc⟩⟩ m _ x2 (by omega) ((Hrm9.out.more (by omega)).below Hx2.out) (HM1.out.below Hx2.out)).mono ?_
            rintro e x3 ⟨rfl, hb3⟩
            have hzx3 := hb3.size
            rw [HL2.out.2.1]
            have Hx3 := hide (Hx2.out.trans (hb3.mono (by omega)))
            clear hb3
            obtain ⟨r0, r1, r2, r3, r4, r5, r6, r7, r8, r9, r10, r11⟩ := (HrowT.out.below Hx3.out (by omega)).all
            simp only at r0 r1 r2 r3 r4 r5 r6 r7 r8 r9 r10 r11
            have hss : (true == true) = true := by simp
            go_wp2_with fail
            clear r0 r1 r2 r3 r4 r5 r6 r7 r8 r9 r10 r11
            refine (dmod_any X.heap.size ⟨⟨some ⟨gt, 0, none⟩, vn + 1, cap2⟩, ⟨io, im, iA, il, ic⟩, ⟨jo, jm, jA, jl, jc⟩, ⟨eA, en, ec⟩, ⟨sA, sn, sc⟩, ⟨aA, an, ac⟩, ⟨nA, nn, nc⟩, ⟨pA, pn, pc⟩⟩ _ x3 (by omega) (HM2.out.below Hx3.out)).mono ?_
            rintro e x4 ⟨rfl, hb4⟩
            have hzx4 := hb4.size
            rw [HL2.out.2.2]
            have Hx4 := hide (Hx3.out.trans (hb4.mono (by omega)))
            clear hb4
            go_wp2_with fail
            refine (awake_any _).mono ?_
            rintro e y1 ⟨rfl, hby⟩
            go_wp2_with fail
            go_ret
            exact ⟨rfl, by rw [hN]; exact HX1.out _ (Hx4.out.trans (hby.mono (by omega)))⟩
        · have hfb : decide (0 ≤ f) = false := by simp; omega
          have HL2 := hide (HL.out (.inr (Hall.out (by omega))))
          obtain ⟨r0, r1, r2, r3, r4, r5, r6, r7, r8, r9, r10, r11⟩ := (HrowA.out.below Hx1.out (by omega)).all
          simp only at r0 r1 r2 r3 r4 r5 r6 r7 r8 r9 r10 r11
          go_wp2_with fail
          clear r0 r1 r2 r3 r4 r5 r6 r7 r8 r9 r10 r11
          refine (dmod_any X.heap.size ⟨⟨some ⟨gv, 0, none⟩, vn, cap⟩, ⟨io, im, iA, il, ic⟩, ⟨jo, jm, jA, jl, jc⟩, ⟨eA, en, ec⟩, ⟨sA, sn, sc⟩, ⟨aA, an, ac⟩, ⟨nA, nn, nc⟩, ⟨pA, pn, pc⟩⟩ _ x1 (by omega) (HM1.out.below Hx1.out)).mono ?_
          rintro e x2 ⟨rfl, hb2⟩
          have hzx2 := hb2.size
          rw [HL2.out.1]
          have Hx2 := hide (Hx1.out.trans (hb2.mono (by omega)))
          clear hb2
          obtain ⟨r0, r1, r2, r3, r4, r5, r6, r7, r8, r9, r10, r11⟩ := (HrowA.out.below Hx2.out (by omega)).all
          simp only at r0 r1 r2 r3 r4 r5 r6 r7 r8 r9 r10 r11
          obtain ⟨q0, q1, q2, q3, q4, q5, q6, q7, q8, q9, q10, q11⟩ := (Hbx9.out.below Hx2.out (by omega)).all
          simp only at q0 q1 q2 q3 q4 q5 q6 q7 q8 q9 q10 q11
          go_wp2_with fail
          clear r0 r1 r2 r3 r4 r5 r6 r7 r8 r9 r10 r11 q0 q1 q2 q3 q4 q5 q6 q7 q8 q9 q10 q11
          refine (dsame_any X.heap.size ⟨⟨some ⟨vb, vo, none⟩, vn, vc⟩, ⟨io, im, iA, il, ic⟩, ⟨jo, jm, jA, jl, jc⟩, ⟨eA, en, ec⟩, ⟨sA, sn, sc⟩, ⟨aA, an, ac⟩, ⟨nA, nn, nc⟩, ⟨pA, pn, pc⟩⟩ ⟨⟨some ⟨gv, 0, none⟩, vn, cap⟩, ⟨io, im, iA, il, ic⟩, ⟨jo, jm, jA, jl, jc⟩, ⟨eA, en, ec⟩, ⟨sA, sn, sc⟩, ⟨aA, an, ac⟩, ⟨nA, nn, nc⟩, ⟨pA, pn, pc⟩⟩ m _ x2 (by omega) ((Hrm9.out.more (by omega)).below Hx2.out) (HM1.out.below Hx2.out)).mono ?_
          rintro e x3 ⟨rfl, hb3⟩
          have hzx3 := hb3.size
          rw [HL2.out.2.1]
          have Hx3 := hide (Hx2.out.trans (hb3.mono (by omega)))
          clear hb3
          obtain ⟨r0, r1, r2, r3, r4, r5, r6, r7, r8, r9, r10, r11⟩ := (HrowT.out.below Hx3.out (by omega)).all
          simp only at r0 r1 r2 r3 r4 r5 r6 r7 r8 r9 r10 r11
          have hss : (sm == sm) = true := by simp
          go_wp2_with fail
          clear r0 r1 r2 r3 r4 r5 r6 r7 r8 r9 r10 r11
          refine (dmod_any X.heap.size ⟨⟨some ⟨gt, 0, none⟩, vn + 1, cap2⟩, ⟨io, im, iA, il, ic⟩, ⟨jo, jm, jA, jl, jc⟩, ⟨eA, en, ec⟩, ⟨sA, sn, sc⟩, ⟨aA, an, ac⟩, ⟨nA, nn, nc⟩, ⟨pA, pn, pc⟩⟩ _ x3 (by omega) (HM2.out.below Hx3.out)).mono ?_
          rintro e x4 ⟨rfl, hb4⟩
          have hzx4 := hb4.size
          rw [HL2.out.2.2]
          have Hx4 := hide (Hx3.out.trans (hb4.mono (by omega)))
          clear hb4
          go_wp2_with fail
          refine (awake_any _).mono ?_
          rintro e y1 ⟨rfl, hby⟩
          go_wp2_with fail
          go_ret
          exact ⟨rfl, by rw [hN]; exact HX1.out _ (Hx4.out.trans (hby.mono (by omega)))⟩
    · have hcb : (modE m != 0) = true := by simp [hc]
      clear hc
      go_wp2_with fail
      refine (awake_any _).mono ?_
      rintro e y1 ⟨rfl, hby⟩
      go_wp2_with fail
      go_ret
      exact ⟨rfl, by rw [hN]; exact Hb2.out.trans (hby.mono (by omega))⟩
end Go.Proofs.Ytddbplgcglgloaa
