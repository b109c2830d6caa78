/- The walk of the reference's InitSys. The walk of the reference's does. The walk of the reference's Env. The walk of the reference's Sys. -/
import Derived.Test.YtbppdalfcldodaaGreatGLead
import Derived.Test.YtbppdalfcldodaaGreatGLaw
namespace Go.Proofs.YtbppdalfcldodaaGreat
open Go.RowKit Ex
set_option linter.unusedSimpArgs false
set_option linter.unusedVariables false

set_option maxRecDepth 100000 in
set_option maxHeartbeats 4000000 in
theorem rinitS_any (B : Nat) (x : M8) (m : MT) (p : Int) (w : World) (hB : B ≤ w.heap.size) (hrm : RM w B x m) :
    Calls Tryz.prog 45 #[.agg x.cells, .int .i64 p] w (IntsPost w (initSysL m p)) := by
  have hbx := (Below.refl w.heap.size w).alloc (Nat.le_refl _) (.cells x.cells 28)
  have Hrm0 := hide (hrm.below (hbx.mono hB))
  have Hbx0 := hide (boxM_new w x)
  have Hb0 := hide hbx
  have hz0 : w.heap.size + 1 ≤ (w.alloc (.cells x.cells 28)).heap.size := by simp
  have Ho := hide hrm.1
  obtain ⟨⟨vA, vn, vc⟩, ⟨io, im, iA, il, ic⟩, ⟨jo, jm, jA, jl, jc⟩, ⟨eA, en, ec⟩, ⟨sA, sn, sc⟩, ⟨aA, an, ac⟩, ⟨nA, nn, nc⟩, ⟨pA, pn, pc⟩⟩ := x
  clear hrm hbx
  simp only [M8.cells, SL.v] at *
  obtain ⟨q0, q1, q2, q3, q4, q5, q6, q7, q8, q9, q10, q11⟩ := row12 Hbx0.out
  simp only at q0 q1 q2 q3 q4 q5 q6 q7 q8 q9 q10 q11
  go_enter Tryz.func45, Tryz.ntmps45
  go_wp2_with fail
  clear q0 q1 q2 q3 q4 q5 q6 q7 q8 q9 q10 q11
  generalize w.alloc (.cells #[.slice vA vn vc, .int .i64 io, .int .i64 im, .slice iA il ic, .int .i64 jo, .int .i64 jm, .slice jA jl jc, .slice eA en ec, .slice sA sn sc, .slice aA an ac, .slice nA nn nc, .slice pA pn pc] 28) = w0 at *
  generalize hN : w.heap.size = N at *
  refine (rmod_any B ⟨⟨vA, vn, vc⟩, ⟨io, im, iA, il, ic⟩, ⟨jo, jm, jA, jl, jc⟩, ⟨eA, en, ec⟩, ⟨sA, sn, sc⟩, ⟨aA, an, ac⟩, ⟨nA, nn, nc⟩, ⟨pA, pn, pc⟩⟩ m w0 (by omega) Hrm0.out).mono ?_
  rintro e w1 ⟨rfl, hb1⟩
  have hz1 := hb1.size
  have Hb1 := hide (Hb0.out.trans (hb1.mono (by omega)))
  have Hrm1 := hide (Hrm0.out.below (hb1.mono (by omega)))
  have Hbx1 := hide (Hbx0.out.below hb1 (by omega))
  clear hb1 Hb0 Hrm0 Hbx0
  by_cases hc : modE m = 0
  · have hcb : (modE m != 0) = false := by simp [hc]
    obtain ⟨q0, _⟩ := row12 Hbx1.out
    simp only at q0
    go_wp2_with fail
    clear q0
    refine (rpick_any B vA vn vc m.vars p w1 Ho.out (by omega) Hrm1.out.2.1).mono ?_
    rintro e w1' ⟨rfl, hb1'⟩
    have hz1' := hb1'.size
    have Hb1' := hide (Hb1.out.trans (hb1'.mono (by omega)))
    have Hrm1' := hide (Hrm1.out.below (hb1'.mono (by omega)))
    have Hbx1' := hide (Hbx1.out.below hb1' (by omega))
    clear hb1' Hb1 Hrm1 Hbx1
    obtain ⟨Hb1, Hrm1, Hbx1⟩ : _ ∧ _ ∧ _ := ⟨Hb1', Hrm1', Hbx1'⟩
    clear Hb1' Hrm1' Hbx1'
    obtain ⟨w1, rfl⟩ : ∃ w, w = w1' := ⟨_, rfl⟩
    cases hpp : pickB m.vars p
    · have Hf : Hid (initSysL m p = []) := hide (by unfold initSysL; rw [if_neg (fun h => by rw [hpp] at h; cases h.2)])
      clear hc hpp
      go_wp2_with fail
      go_ret
      rw [Hf.out, ← hN] at *
      exact ints_none Hb1.out
    have Hf : Hid (initSysL m p = upTo (fun s => (Dom.partL m.vars s true == p) && trueE m.vars m.is s s) (totN m)) := hide (by unfold initSysL; rw [if_pos ⟨hc, hpp⟩])
    clear hc hpp
    obtain ⟨q0, _⟩ := row12 Hbx1.out
    simp only at q0
    go_wp2_with fail
    clear q0
    refine (Dom.rtotal_any vA vn vc B m.vars w1 Ho.out.1 Ho.out.2.1 Ho.out.2.2.1 (by omega) Hrm1.out.2.1 Ho.out.2.2.2).mono ?_
    rintro e w2 ⟨rfl, hb2⟩
    have hz2 := hb2.size
    have Hb2 := hide (Hb1.out.trans (hb2.mono (by omega)))
    have Hrm2 := hide (Hrm1.out.below (hb2.mono (by omega)))
    have Hbx2 := hide (Hbx1.out.below hb2 (by omega))
    clear hb2 Hb1 Hrm1 Hbx1
    obtain ⟨t, ht, ht512⟩ : ∃ t : Nat, Dom.totL m.vars = (t : Int) ∧ t ≤ 512 := ⟨totN m, by unfold totN; have := (Dom.totL_bd m.vars).1; omega, by unfold totN; have := (Dom.totL_bd m.vars).2; omega⟩
    have htn : totN m = t := by unfold totN; rw [ht]; rfl
    rw [htn] at Hf
    rw [ht]
    clear ht htn
    go_wp2_with fail
    obtain ⟨i0, hi0, hi1, hi2, hi3⟩ := info_parts Dom.info3
    have Hi0 := hide hi0; have Hi1 := hide hi1; have Hi2 := hide hi2; have Hi3 := hide hi3
    clear hi0 hi1 hi2 hi3
    go_loopw [5, 20] (fun ov i wr => ∃ (k n c : Nat) (O : Option Addr), k ≤ t ∧ i = .int .i64 k ∧ ov = .slice O n c ∧ n ≤ k ∧ wr.ownsRow w2.heap.size 3 1 (.slice O n c) n (ints (upTo (fun s => (Dom.partL m.vars s true == p) && trueE m.vars m.is s s) k)) ∧ Below w2.heap.size w2 wr) (fun _ i _ => t - (intOf i).toNat)
    case atStart => exact ⟨0, 0, 0, none, by omega, rfl, rfl, Nat.le_refl _, ⟨rfl, .inl ⟨rfl, rfl⟩⟩, Below.refl _ _⟩
    case round =>
      obtain ⟨k, n, c, O, hk, rfl, rfl, hn, how, hb⟩ := hrel
      have How := hide how
      have Hb := hide hb
      have hzr := hb.size
      clear how hb
      by_cases hlt : k < t
      · have hlt' : ((k : Int) < (t : Int)) := by omega
        obtain ⟨q0, _⟩ := row12 (Hbx2.out.below Hb.out (by omega))
        simp only at q0
        go_wp2_with fail
        clear q0
        refine (Dom.rpart_any vA vn vc B m.vars (k : Int) true wr Ho.out.1 Ho.out.2.1 Ho.out.2.2.1 (by omega) (Hrm2.out.below (Hb.out.mono (by omega))).2.1 Ho.out.2.2.2).mono ?_
        rintro e w3 ⟨rfl, hb3⟩
        have hz3 := hb3.size
        have Hb3 := hide (Hb.out.trans (hb3.mono (by omega)))
        have How3 := hide (own_below How.out hb3)
        clear hb3
        generalize hpa : Dom.partL m.vars (k : Int) true = pa at *
        cases hpk : (pa == p)
        · have Hu : Hid (upTo (fun s => (Dom.partL m.vars s true == p) && trueE m.vars m.is s s) (k + 1) = upTo (fun s => (Dom.partL m.vars s true == p) && trueE m.vars m.is s s) k) := hide (by rw [upTo]; simp only [hpa, hpk]; simp)
          clear hpa
          go_wp2_with fail
          go_roundw
          case rel => exact ⟨k + 1, n, c, O, by omega, by go_num, rfl, by omega, by rw [Hu.out]; exact How3.out, Hb3.out⟩
          case measure => simp [intOf]; omega
        · obtain ⟨q0, _, _, _, q1, q2, q3, _⟩ := row12 (Hbx2.out.below Hb3.out (by omega))
          simp only at q0 q1 q2 q3
          obtain ⟨dg, hdg⟩ := (Hrm2.out.below (Hb3.out.mono (by omega))).2.2.2.1
          have Hdg := hide hdg
          clear hdg
          go_wp2_with fail
          clear q0 q1 q2 q3
          refine (rtrue_any B vA vn vc m.vars dg jo jm jA jl jc m.is (k : Int) (k : Int) w3 Ho.out.1 Ho.out.2.1 Ho.out.2.2.1 (by omega) Hdg.out (Hrm2.out.below (Hb3.out.mono (by omega))).2.1 Ho.out.2.2.2).mono ?_
          rintro e w4 ⟨rfl, hb4⟩
          have hz4 := hb4.size
          have Hb4 := hide (Hb3.out.trans (hb4.mono (by omega)))
          have How4 := hide (own_below How3.out hb4)
          clear hb4 Hdg
          generalize htr : trueE m.vars m.is (k : Int) (k : Int) = tr at *
          cases tr
          · have Hu : Hid (upTo (fun s => (Dom.partL m.vars s true == p) && trueE m.vars m.is s s) (k + 1) = upTo (fun s => (Dom.partL m.vars s true == p) && trueE m.vars m.is s s) k) := hide (by rw [upTo]; simp only [hpa, hpk, htr]; simp)
            clear hpa htr
            go_wp2_with fail
            go_roundw
            case rel => exact ⟨k + 1, n, c, O, by omega, by go_num, rfl, by omega, by rw [Hu.out]; exact How4.out, Hb4.out⟩
            case measure => simp [intOf]; omega
          · have Hu : Hid (upTo (fun s => (Dom.partL m.vars s true == p) && trueE m.vars m.is s s) (k + 1) = upTo (fun s => (Dom.partL m.vars s true == p) && trueE m.vars m.is s s) k ++ [(k : Int)]) := hide (by rw [upTo]; simp only [hpa, hpk, htr]; simp)
            clear hpa htr
            go_wp2_with (at_builtin; refine wpList_append_lies _ rfl _ _ _ rfl w2.heap.size 3 i0 _ 1 8 Tryz.underlying32 Hi0.out Hi1.out Hi2.out Hi3.out rfl (by omega) (.slice O n c) n (ints (upTo (fun s => (Dom.partL m.vars s true == p) && trueE m.vars m.is s s) k)) rfl (How4.out.alloc _) ⟨w4.heap.size, 0, none⟩ 1 1 [.int .i64 (k : Int)] rfl rfl (World.news_of_block (cs := #[.int .i64 (k : Int)]) (t := 3) (fr := (0, 0)) (heap_alloc_new w4 _)) (by simp [Value.oneCell']) (by omega) (by unfold maxLen; omega) (by omega) (by simp; omega) _ rfl ?_; intro g5 cap5 w5 hown5 hgrow5 hat5 hlt5)
            have hb5 : Below w2.heap.size w2 w5 := (Hb4.out.alloc (by omega) _).grown hgrow5 (by simp; omega) (fun j hj => by have := (How4.out.lt j hj).1; omega)
            have Ho5 := hide hown5
            rw [ints_snoc, ← Hu.out] at Ho5
            clear hown5 hgrow5 hat5
            go_roundw
            case rel => exact ⟨k + 1, n + 1, cap5, some ⟨g5, 0, none⟩, by omega, by go_num, rfl, by omega, Ho5.out, hb5⟩
            case measure => simp [intOf]; omega
      · have hlt' : ¬ ((k : Int) < (t : Int)) := by omega
        obtain rfl : k = t := by omega
        go_wp2_with fail
        go_ret
        rw [Hf.out, ← hN] at *
        exact ⟨O, n, c, rfl, own_base0 How.out (by omega), by have := How.out.1; simpa [ints] using this, Hb2.out.trans (Hb.out.mono (by omega))⟩
  · have hcb : (modE m != 0) = true := by simp [hc]
    have Hf : Hid (initSysL m p = []) := hide (by unfold initSysL; rw [if_neg (fun h => hc h.1)])
    clear hc
    go_wp2_with fail
    go_ret
    rw [Hf.out, ← hN] at *
    exact ints_none Hb1.out
end Go.Proofs.YtbppdalfcldodaaGreat
namespace Go.Proofs.YtbppdalfcldodaaGreat
open Go.RowKit Ex
set_option linter.unusedSimpArgs false
set_option linter.unusedVariables false

theorem box_var (w : World) (v : Dom.V) : Dom.CellV (w.alloc (.cells #[.string v.nm, .bool v.env, .int .i64 v.srt, .int .i64 v.lo, .int .i64 v.hi] 103)) w.heap.size 0 v := by
  unfold Dom.CellV
  simp [go_sem]
theorem ri_get {w : World} {B n k : Nat} {A : Option Addr} {xs : List Int} (h : RI w B A n xs) (hk : k < n) : ∃ b off, A = some ⟨b, off, none⟩ ∧ b < B ∧ w.cell? ⟨b, off + k, none⟩ = some (.int .i64 (xs.getD k 0)) := by
  obtain ⟨b, off, x, e, hb, hx, hc⟩ := h.at_ hk
  refine ⟨b, off, e, hb, ?_⟩
  rw [hc]
  simp [hx]
set_option maxRecDepth 100000 in
set_option maxHeartbeats 8000000 in
theorem does_any (B : Nat) (Av : Option Addr) (nv cv : Nat) (lv : List Dom.V) (x : C2) (c : CT) (env : Bool) (st nx to : Int) (w : World) (ho : OkVars ⟨Av, nv, cv⟩ lv) (hB : B ≤ w.heap.size) (hrc : RC w B x c) (hrv : Dom.RV w B Av nv lv) (hst : Dom.goodS lv st = true) (hto : Dom.goodS lv to = true) :
    Calls Tryz.prog 83 #[.slice Av nv cv, .agg x.cells, .bool env, .int .i64 st, .int .i64 nx, .int .i64 to] w fun e w' => e = .returned (.bool (doesB lv c env st nx to)) ∧ Below w.heap.size w w' := by
  obtain ⟨⟨go, gn, gA, gl, gc⟩, ⟨sA, sn, sc⟩⟩ := x
  have Hnl := hide hrv.1
  have Hsl : Hid (c.sets.length = sn) := hide hrc.2.1
  have hsc : sn ≤ sc := hrc.2.2.1
  have hsm : sc ≤ 2 ^ 63 - 1 := hrc.2.2.2.1
  have hnv : nv ≤ 2 ^ 63 - 1 := ho.1
  have hbx := (Below.refl w.heap.size w).alloc (Nat.le_refl _) (.cells #[.int .i64 go, .int .i64 gn, .slice gA gl gc, .slice sA sn sc] 71)
  obtain ⟨⟨f0, f1, f2⟩, f3⟩ := box4 w go gn gA gl gc sA sn sc
  have Hf3 := hide f3
  have Hrc := hide (hrc.below (hbx.mono hB))
  have Hrv := hide (hrv.below (hbx.mono hB))
  have Hb0 := hide hbx
  have Ho := hide ho
  have hz0 : w.heap.size + 1 ≤ (w.alloc (.cells #[.int .i64 go, .int .i64 gn, .slice gA gl gc, .slice sA sn sc] 71)).heap.size := by simp
  have Hd : Hid (doesB lv c env st nx to = (trueE lv c.guard st nx && doesGo lv c env st nx (Dom.valsL lv st) (Dom.valsL lv to) 0 lv)) := hide rfl
  clear hrc hrv hbx ho f3
  simp only [C2.cells, SL.v]
  obtain ⟨dg, hdg⟩ := Hrc.out.1
  have Hdg := hide hdg
  clear hdg
  have f3 := Hf3.out
  go_enter Tryz.func83, Tryz.ntmps83
  go_wp2_with fail
  clear f0 f1 f2 f3
  generalize w.alloc (.cells #[.int .i64 go, .int .i64 gn, .slice gA gl gc, .slice sA sn sc] 71) = w0 at *
  generalize hN : w.heap.size = N at *
  refine (rtrue_any B Av nv cv lv dg go gn gA gl gc c.guard st nx w0 Ho.out.1 Ho.out.2.1 Ho.out.2.2.1 (by omega) Hdg.out Hrv.out Ho.out.2.2.2).mono ?_
  rintro e w1 ⟨rfl, hb1⟩
  have hz1 := hb1.size
  have Hb1 := hide (Hb0.out.trans (hb1.mono (by omega)))
  have Hrc1 := hide (Hrc.out.below (hb1.mono (by omega)))
  have Hrv1 := hide (Hrv.out.below (hb1.mono (by omega)))
  have Hf31 := hide ((hb1.cell (p := ⟨N, 3, none⟩) (by show N < w0.heap.size; omega)).trans Hf3.out)
  clear hb1 Hb0 Hrc Hrv Hf3 Hdg
  generalize trueE lv c.guard st nx = tg at *
  cases tg
  · have Hf : Hid (doesB lv c env st nx to = false) := hide (by rw [Hd.out]; rfl)
    go_wp2_with fail
    go_ret
    exact ⟨ret_bool Hf.out.symm, by first | exact Hb1.out | (rw [hN]; exact Hb1.out)⟩
  · have Hd2 : Hid (doesB lv c env st nx to = doesGo lv c env st nx (Dom.valsL lv st) (Dom.valsL lv to) 0 lv) := hide (by rw [Hd.out]; rfl)
    clear Hd
    go_wp2_with fail
    refine (Dom.rvals_good Av nv cv B lv st w1 Ho.out.2.1 Ho.out.2.2.1 (by omega) Hrv1.out Ho.out.2.2.2 (Dom.goodS_true hst).1 (Dom.goodS_true hst).2.1 (Dom.goodS_true hst).2.2).mono ?_
    rintro e w2 ⟨A1, c1, rfl, how1, hb2⟩
    have hz2 := hb2.size
    have Hri1 := hide (own_ri how1)
    have Hb2 := hide (Hb1.out.trans (hb2.mono (by omega)))
    have Hrc2 := hide (Hrc1.out.below (hb2.mono (by omega)))
    have Hrv2 := hide (Hrv1.out.below (hb2.mono (by omega)))
    have Hf32 := hide ((hb2.cell (p := ⟨N, 3, none⟩) (by show N < w1.heap.size; omega)).trans Hf31.out)
    clear hb2 how1 Hb1 Hrc1 Hrv1 Hf31
    go_wp2_with fail
    refine (Dom.rvals_good Av nv cv B lv to w2 Ho.out.2.1 Ho.out.2.2.1 (by omega) Hrv2.out Ho.out.2.2.2 (Dom.goodS_true hto).1 (Dom.goodS_true hto).2.1 (Dom.goodS_true hto).2.2).mono ?_
    rintro e w3 ⟨A2, c2, rfl, how2, hb3⟩
    have hz3 := hb3.size
    have Hri2 := hide (own_ri how2)
    have Hri1' := hide (Hri1.out.below hb3)
    have Hb3 := hide (Hb2.out.trans (hb3.mono (by omega)))
    have Hrc3 := hide (Hrc2.out.below (hb3.mono (by omega)))
    have Hrv3 := hide (Hrv2.out.below (hb3.mono (by omega)))
    have Hf33 := hide ((hb3.cell (p := ⟨N, 3, none⟩) (by show N < w2.heap.size; omega)).trans Hf32.out)
    clear hb3 how2 Hb2 Hrc2 Hrv2 Hf32 Hri1
    generalize hws : Dom.valsL lv st = ws at *
    generalize hzs : Dom.valsL lv to = zs at *
    clear hws hzs
    go_wp2_with fail
    go_loopw [46] (fun i wr => ∃ (k : Nat), k ≤ nv ∧ i = .int .i64 k ∧ Hid (doesGo lv c env st nx ws zs k (lv.drop k) = doesGo lv c env st nx ws zs 0 lv) ∧ Below w3.heap.size w3 wr) (fun i _ => nv - (intOf i).toNat)
    case atStart => exact ⟨0, by omega, rfl, hide rfl, Below.refl _ _⟩
    case round =>
      obtain ⟨k, hk, rfl, HT, hb⟩ := hrel
      have Hb := hide hb
      have hzr := hb.size
      clear hb
      by_cases hlt : k < nv
      · have hlt' : ((k : Int) < (nv : Int)) := by omega
        obtain ⟨vb, vo, v, eAv, hvb, hvk, g0, g1, g2, g3, g4⟩ := (Hrv3.out.below (Hb.out.mono (by omega))).at_ (k := k) hlt
        subst eAv
        have Hst : Hid ((doesAt lv c env st nx ws zs k v && doesGo lv c env st nx ws zs (k + 1) (lv.drop (k + 1))) = doesGo lv c env st nx ws zs 0 lv) := hide (by rw [← HT.out, drop_at hvk, doesGo])
        clear hvk HT
        have hbV := (Below.refl wr.heap.size wr).alloc (Nat.le_refl _) (.cells #[.string v.nm, .bool v.env, .int .i64 v.srt, .int .i64 v.lo, .int .i64 v.hi] 103)
        have HbV := hide (Hb.out.trans (hbV.mono hzr))
        obtain ⟨h0, h1, h2, h3, h4⟩ := box_var wr v
        have hzV : wr.heap.size + 1 ≤ (wr.alloc (.cells #[.string v.nm, .bool v.env, .int .i64 v.srt, .int .i64 v.lo, .int .i64 v.hi] 103)).heap.size := by simp
        obtain ⟨rb, ro, eA1, hrb, r1⟩ := ri_get Hri1'.out hlt
        have r1' := (HbV.out.cell (p := ⟨rb, ro + k, none⟩) (by show rb < w3.heap.size; omega)).trans r1
        have s3 := (HbV.out.cell (p := ⟨N, 3, none⟩) (by show N < w3.heap.size; omega)).trans Hf33.out
        clear hbV r1
        subst eA1
        by_cases hve : v.env = env
        · have hne : (v.env == env) = true := by simp [hve]
          have Hat : Hid (doesAt lv c env st nx ws zs k v = atR (scanS lv st nx (k : Int) c.sets (ws.getD k 0) false) (zs.getD k 0)) := hide (by unfold doesAt; rw [if_pos hve])
          clear hve
          generalize hwk : ws.getD k 0 = wk at *
          clear hwk
          go_wp2_with fail
          clear g0 g1 g2 g3 g4 h0 h1 h2 h3 h4 r1' s3 hne
          generalize wr.alloc (.cells #[.string v.nm, .bool v.env, .int .i64 v.srt, .int .i64 v.lo, .int .i64 v.hi] 103) = U at *
          generalize hg : wr.heap.size = gg at *
          go_loopw [19, 20, 62] (fun wv av i wr => ∃ (j : Nat) (x : Int) (a : Bool), j ≤ sn ∧ i = .int .i64 j ∧ wv = .int .i64 x ∧ av = .bool a ∧ Hid (scanS lv st nx (k : Int) (c.sets.drop j) x a = scanS lv st nx (k : Int) c.sets wk false) ∧ Below U.heap.size U wr) (fun _ _ i _ => sn - (intOf i).toNat)
          case atStart => exact ⟨0, _, _, by omega, rfl, rfl, rfl, hide rfl, Below.refl _ _⟩
          case round =>
            obtain ⟨j, xw, aw, hj, rfl, rfl, rfl, HS, hbu⟩ := hrel
            have Hbu := hide hbu
            have hzu := hbu.size
            have Hbm := hide (HbV.out.trans (hbu.mono (by omega)))
            clear hbu
            by_cases hjl : j < sn
            · have hjl' : ((j : Int) < (sn : Int)) := by omega
              obtain ⟨b, off, s, eA, hbB, hku, ⟨c0, c1', ⟨so, sm, sO, sl2, sc2⟩, ⟨c2', c3, c4⟩, hes⟩⟩ := (Hrc3.out.below (Hbm.out.mono (by omega))).2.at_ (k := j) hjl
              simp only at eA c2' c3 c4
              subst eA
              have HS2 := hide (show scanS lv st nx (k : Int) (s :: c.sets.drop (j + 1)) xw aw = scanS lv st nx (k : Int) c.sets wk false by rw [← drop_at hku]; exact HS.out)
              clear hku HS
              obtain ⟨z, p, te⟩ := s
              simp only at c0 c1' hes
              have hbS := (Below.refl wr.heap.size wr).alloc (Nat.le_refl _) (.cells #[.int .i64 z, .bool p, .int .i64 so, .int .i64 sm, .slice sO sl2 sc2] 111)
              have Hes := hide (hes.below (hbS.mono (by omega)))
              have HbS := hide (Hbu.out.trans (hbS.mono (by omega)))
              have HbM := hide (Hbm.out.trans (hbS.mono (by omega)))
              obtain ⟨d0, d1, d2, d3, d4⟩ := box5_new wr z p so sm sO sl2 sc2
              have hzS : wr.heap.size + 1 ≤ (wr.alloc (.cells #[.int .i64 z, .bool p, .int .i64 so, .int .i64 sm, .slice sO sl2 sc2] 111)).heap.size := by simp
              clear hes hbS
              by_cases hzk : z = (k : Int)
              · have hzb : (z != (k : Int)) = false := by simp [hzk]
                cases p
                · have HS3 : Hid ((if (valE lv te st nx).2 = 0 then scanS lv st nx (k : Int) (c.sets.drop (j + 1)) (valE lv te st nx).1 false else none) = scanS lv st nx (k : Int) c.sets wk false) := hide (by have h := HS2.out; rw [scanS] at h; simp only [hzk, if_true] at h; simpa using h)
                  clear hzk HS2
                  obtain ⟨de, hde⟩ := Hes.out
                  have Hde := hide hde
                  clear hde
                  go_wp2_with fail
                  clear c0 c1' c2' c3 c4 d0 d1 d2 d3 d4
                  generalize wr.alloc (.cells #[.int .i64 z, .bool false, .int .i64 so, .int .i64 sm, .slice sO sl2 sc2] 111) = X at *
                  refine (rval_any B (some ⟨vb, vo, none⟩) nv cv lv de so sm sO sl2 sc2 te st nx X Ho.out.1 Ho.out.2.1 Ho.out.2.2.1 (by omega) Hde.out (Hrv3.out.below (HbM.out.mono (by omega))) Ho.out.2.2.2).mono ?_
                  rintro e x1 ⟨rfl, hbx1⟩
                  have hzx1 := hbx1.size
                  have Hbx1 := hide (HbS.out.trans (hbx1.mono (by omega)))
                  have HbM1 := hide (HbM.out.trans (hbx1.mono (by omega)))
                  clear hbx1 Hde
                  generalize valE lv te st nx = r at *
                  obtain ⟨r1, r2⟩ := r
                  simp only at HS3 ⊢
                  by_cases hr : r2 = 0
                  · have hrb : (r2 != 0) = false := by simp [hr]
                    have HS4 : Hid (scanS lv st nx (k : Int) (c.sets.drop (j + 1)) r1 false = scanS lv st nx (k : Int) c.sets wk false) := hide (by have h := HS3.out; rw [if_pos hr] at h; exact h)
                    clear hr HS3
                    go_wp2_with fail
                    go_roundw
                    case rel => exact ⟨j + 1, r1, false, by omega, by go_num, rfl, rfl, HS4, Hbx1.out⟩
                    case measure => simp [intOf]; omega
                  · have hrb : (r2 != 0) = true := by simp [hr]
                    have Hf : Hid (doesB lv c env st nx to = false) := hide (by
                      have h := HS3.out
                      rw [if_neg hr] at h
                      rw [Hd2.out, ← Hst.out, Hat.out, ← h]; rfl)
                    clear hr HS3
                    go_wp2_with fail
                    go_ret
                    exact ⟨ret_bool Hf.out.symm, by first | exact Hb3.out.trans (HbM1.out.mono (by omega)) | (rw [hN]; exact Hb3.out.trans (HbM1.out.mono (by omega)))⟩
                · have HS3 : Hid (scanS lv st nx (k : Int) (c.sets.drop (j + 1)) xw true = scanS lv st nx (k : Int) c.sets wk false) := hide (by have h := HS2.out; rw [scanS] at h; simp only [hzk, if_true] at h; exact h)
                  clear hzk HS2
                  go_wp2_with fail
                  go_roundw
                  case rel => exact ⟨j + 1, xw, true, by omega, by go_num, rfl, rfl, HS3, HbS.out⟩
                  case measure => simp [intOf]; omega
              · have hzb : (z != (k : Int)) = true := by simp [hzk]
                have HS3 : Hid (scanS lv st nx (k : Int) (c.sets.drop (j + 1)) xw aw = scanS lv st nx (k : Int) c.sets wk false) := hide (by have h := HS2.out; rw [scanS, if_neg hzk] at h; exact h)
                clear hzk HS2
                go_wp2_with fail
                go_roundw
                case rel => exact ⟨j + 1, xw, aw, by omega, by go_num, rfl, rfl, HS3, HbS.out⟩
                case measure => simp [intOf]; omega
            · have hjl' : ¬ ((j : Int) < (sn : Int)) := by omega
              have HS2 : Hid (scanS lv st nx (k : Int) c.sets wk false = some (xw, aw)) := hide (by rw [← HS.out, List.drop_of_length_le (by rw [Hsl.out]; omega), scanS])
              have Hat2 : Hid (doesAt lv c env st nx ws zs k v = (aw || (zs.getD k 0 == xw))) := hide (by rw [Hat.out, HS2.out]; rfl)
              clear HS HS2 Hat
              obtain ⟨rb2, ro2, eA2, hrb2, r2⟩ := ri_get Hri2.out hlt
              have r2' := (Hbm.out.cell (p := ⟨rb2, ro2 + k, none⟩) (by show rb2 < w3.heap.size; omega)).trans r2
              clear r2
              subst eA2
              generalize zs.getD k 0 = zk at *
              cases aw
              · by_cases hzx : zk = xw
                · have hzb : (zk != xw) = false := by simp [hzx]
                  have Hon : Hid (doesGo lv c env st nx ws zs (k + 1) (lv.drop (k + 1)) = doesGo lv c env st nx ws zs 0 lv) := hide (by rw [← Hst.out, Hat2.out]; simp [hzx])
                  clear hzx Hat2 Hst
                  go_wp2_with fail
                  go_roundw
                  case rel => exact ⟨k + 1, by omega, by go_num, Hon, Hbm.out⟩
                  case measure => simp [intOf]; omega
                · have hzb : (zk != xw) = true := by simp [hzx]
                  have Hf : Hid (doesB lv c env st nx to = false) := hide (by rw [Hd2.out, ← Hst.out, Hat2.out]; simp [hzx])
                  clear hzx Hat2 Hst
                  go_wp2_with fail
                  go_ret
                  exact ⟨ret_bool Hf.out.symm, by first | exact Hb3.out.trans (Hbm.out.mono (by omega)) | (rw [hN]; exact Hb3.out.trans (Hbm.out.mono (by omega)))⟩
              · have Hon : Hid (doesGo lv c env st nx ws zs (k + 1) (lv.drop (k + 1)) = doesGo lv c env st nx ws zs 0 lv) := hide (by rw [← Hst.out, Hat2.out]; simp)
                clear Hat2 Hst
                go_wp2_with fail
                go_roundw
                case rel => exact ⟨k + 1, by omega, by go_num, Hon, Hbm.out⟩
                case measure => simp [intOf]; omega
        · have hne : (v.env == env) = false := by simp [hve]
          have Hon : Hid (doesGo lv c env st nx ws zs (k + 1) (lv.drop (k + 1)) = doesGo lv c env st nx ws zs 0 lv) := hide (by rw [← Hst.out]; unfold doesAt; rw [if_neg hve]; simp)
          clear hve Hst
          go_wp2_with fail
          go_roundw
          case rel => exact ⟨k + 1, by omega, by go_num, Hon, HbV.out⟩
          case measure => simp [intOf]; omega
      · have hlt' : ¬ ((k : Int) < (nv : Int)) := by omega
        have Hf : Hid (doesB lv c env st nx to = true) := hide (by rw [Hd2.out, ← HT.out, List.drop_of_length_le (by rw [Hnl.out]; omega), doesGo])
        go_wp2_with fail
        go_ret
        exact ⟨ret_bool Hf.out.symm, by first | exact Hb3.out.trans (Hb.out.mono (by omega)) | (rw [hN]; exact Hb3.out.trans (Hb.out.mono (by omega)))⟩
end Go.Proofs.YtbppdalfcldodaaGreat
namespace Go.Proofs.YtbppdalfcldodaaGreat
open Go.RowKit Ex
set_option linter.unusedSimpArgs false
set_option linter.unusedVariables false

set_option maxRecDepth 100000 in
set_option maxHeartbeats 8000000 in
theorem renv_any (B : Nat) (x : M8) (m : MT) (st : Int) (w : World) (hB : B ≤ w.heap.size) (hrm : RM w B x m) :
    Calls Tryz.prog 44 #[.agg x.cells, .int .i64 st] w (IntsPost w (envL m st)) := by
  have hbx := (Below.refl w.heap.size w).alloc (Nat.le_refl _) (.cells x.cells 28)
  have Hrm0 := hide (hrm.below (hbx.mono hB))
  have Hbx0 := hide (boxM_new w x)
  have Hb0 := hide hbx
  have hz0 : w.heap.size + 1 ≤ (w.alloc (.cells x.cells 28)).heap.size := by simp
  have Ho := hide hrm.1
  obtain ⟨⟨vA, vn, vc⟩, ⟨io, im, iA, il, ic⟩, ⟨jo, jm, jA, jl, jc⟩, ⟨eA, en, ec⟩, ⟨sA, sn, sc⟩, ⟨aA, an, ac⟩, ⟨nA, nn, nc⟩, ⟨pA, pn, pc⟩⟩ := x
  have hnm : en ≤ 2 ^ 63 - 1 := Nat.le_trans hrm.2.2.2.2.1.2.1 hrm.2.2.2.2.1.2.2.1
  have Hln : Hid (m.env.length = en) := hide hrm.2.2.2.2.1.1
  clear hrm hbx
  simp only [M8.cells, SL.v] at *
  obtain ⟨q0, q1, q2, q3, q4, q5, q6, q7, q8, q9, q10, q11⟩ := row12 Hbx0.out
  simp only at q0 q1 q2 q3 q4 q5 q6 q7 q8 q9 q10 q11
  go_enter Tryz.func44, Tryz.ntmps44
  go_wp2_with fail
  clear q0 q1 q2 q3 q4 q5 q6 q7 q8 q9 q10 q11
  generalize w.alloc (.cells #[.slice vA vn vc, .int .i64 io, .int .i64 im, .slice iA il ic, .int .i64 jo, .int .i64 jm, .slice jA jl jc, .slice eA en ec, .slice sA sn sc, .slice aA an ac, .slice nA nn nc, .slice pA pn pc] 28) = w0 at *
  generalize hN : w.heap.size = N at *
  refine (rmod_any B ⟨⟨vA, vn, vc⟩, ⟨io, im, iA, il, ic⟩, ⟨jo, jm, jA, jl, jc⟩, ⟨eA, en, ec⟩, ⟨sA, sn, sc⟩, ⟨aA, an, ac⟩, ⟨nA, nn, nc⟩, ⟨pA, pn, pc⟩⟩ m w0 (by omega) Hrm0.out).mono ?_
  rintro e w1 ⟨rfl, hb1⟩
  have hz1 := hb1.size
  have Hb1 := hide (Hb0.out.trans (hb1.mono (by omega)))
  have Hrm1 := hide (Hrm0.out.below (hb1.mono (by omega)))
  have Hbx1 := hide (Hbx0.out.below hb1 (by omega))
  clear hb1 Hb0 Hrm0 Hbx0
  by_cases hc : modE m = 0
  case neg =>
    have hcb : (modE m != 0) = true := by simp [hc]
    have Hf : Hid (envL m st = []) := hide (by unfold envL; rw [if_neg (fun h => hc h.1)])
    clear hc
    go_wp2_with fail
    go_ret
    rw [Hf.out, ← hN] at *
    exact ints_none Hb1.out
  case pos =>
    have hcb : (modE m != 0) = false := by simp [hc]
    by_cases hs0 : st < 0
    case pos =>
      have hsb : decide (st < 0) = true := by simp [hs0]
      have Hf : Hid (envL m st = []) := hide (by unfold envL; rw [if_neg (fun h => absurd h.2.1 (by omega))])
      clear hc hs0
      go_wp2_with fail
      go_ret
      rw [Hf.out, ← hN] at *
      exact ints_none Hb1.out
    case neg =>
      have hsb : decide (st < 0) = false := by simp; omega
      obtain ⟨q0, _⟩ := row12 Hbx1.out
      simp only at q0
      go_wp2_with fail
      clear q0
      refine (Dom.rtotal_any vA vn vc B m.vars w1 Ho.out.1 Ho.out.2.1 Ho.out.2.2.1 (by omega) Hrm1.out.2.1 Ho.out.2.2.2).mono ?_
      rintro e w2 ⟨rfl, hb2⟩
      have hz2 := hb2.size
      have Hb2 := hide (Hb1.out.trans (hb2.mono (by omega)))
      have Hrm2 := hide (Hrm1.out.below (hb2.mono (by omega)))
      have Hbx2 := hide (Hbx1.out.below hb2 (by omega))
      clear hb2 Hb1 Hrm1 Hbx1
      obtain ⟨t, ht, ht512⟩ : ∃ t : Nat, Dom.totL m.vars = (t : Int) ∧ t ≤ 512 := ⟨totN m, by unfold totN; have := (Dom.totL_bd m.vars).1; omega, by unfold totN; have := (Dom.totL_bd m.vars).2; omega⟩
      have htn : totN m = t := by unfold totN; rw [ht]; rfl
      have Ht := hide ht
      have Hmay := hide (show Dom.mayL m.vars = 0 from ((modE_iff m).1 hc).1)
      rw [ht]
      by_cases hst : (t : Int) ≤ st
      case pos =>
        have hstb : decide ((t : Int) ≤ st) = true := by simp [hst]
        have Hf : Hid (envL m st = []) := hide (by unfold envL; rw [if_neg (fun h => absurd h.2.2 (by rw [ht]; omega))])
        clear hc hs0 hst ht htn
        go_wp2_with fail
        go_ret
        rw [Hf.out, ← hN] at *
        exact ints_none Hb2.out
      case neg =>
        have hstb : decide ((t : Int) ≤ st) = false := by simp; omega
        have Hf : Hid (envL m st = upTo (fun p => m.env.any (fun c => pickB m.vars p && doesB m.vars c true st st p)) t) := hide (by unfold envL; rw [if_pos ⟨hc, by omega, by rw [ht]; omega⟩, htn])
        clear hc ht htn
        clear hcb hsb hstb
        obtain ⟨q0, _⟩ := row12 Hbx2.out
        simp only at q0
        go_wp2_with fail
        clear q0
        refine (Dom.rtotal_any vA vn vc B m.vars w2 Ho.out.1 Ho.out.2.1 Ho.out.2.2.1 (by omega) Hrm2.out.2.1 Ho.out.2.2.2).mono ?_
        rintro e w3 ⟨rfl, hb3⟩
        have hz3 := hb3.size
        have Hb3 := hide (Hb2.out.trans (hb3.mono (by omega)))
        have Hrm3 := hide (Hrm2.out.below (hb3.mono (by omega)))
        have Hbx3 := hide (Hbx2.out.below hb3 (by omega))
        clear hb3 Hb2 Hrm2 Hbx2
        rw [Ht.out]
        have Hgs : Hid (Dom.goodS m.vars st = true) := hide (by unfold Dom.goodS; simp [Hmay.out, Ht.out]; omega)
        have Hgt : Hid (∀ k : Nat, k < t → Dom.goodS m.vars (k : Int) = true) := hide (fun k hk => by unfold Dom.goodS; simp [Hmay.out, Ht.out]; omega)
        clear hs0 hst
        go_wp2_with fail
        obtain ⟨i0, hi0, hi1, hi2, hi3⟩ := info_parts Dom.info3
        have Hi0 := hide hi0; have Hi1 := hide hi1; have Hi2 := hide hi2; have Hi3 := hide hi3
        clear hi0 hi1 hi2 hi3
        go_loopw [5, 27] (fun ov i wr => ∃ (k n c : Nat) (O : Option Addr), k ≤ t ∧ i = .int .i64 k ∧ ov = .slice O n c ∧ n ≤ k ∧ wr.ownsRow w3.heap.size 3 1 (.slice O n c) n (ints (upTo (fun p => m.env.any (fun c => pickB m.vars p && doesB m.vars c true st st p)) k)) ∧ Below w3.heap.size w3 wr) (fun _ i _ => t - (intOf i).toNat)
        case atStart => exact ⟨0, 0, 0, none, by omega, rfl, rfl, Nat.le_refl _, ⟨rfl, .inl ⟨rfl, rfl⟩⟩, Below.refl _ _⟩
        case round =>
          obtain ⟨k, n, c, O, hk, rfl, rfl, hn, how, hb⟩ := hrel
          have How := hide how
          have Hb := hide hb
          have hzr := hb.size
          clear how hb
          by_cases hlt : k < t
          · have hlt' : ((k : Int) < (t : Int)) := by omega
            obtain ⟨q0, _, _, _, _, _, _, qe, _, _, _, _⟩ := row12 (Hbx3.out.below Hb.out (by omega))
            simp only at q0 qe
            have Hu0 : Hid (upTo (fun p => m.env.any (fun c => pickB m.vars p && doesB m.vars c true st st p)) (k + 1) = upTo (fun p => m.env.any (fun c => pickB m.vars p && doesB m.vars c true st st p)) k ++ (if (m.env).any (fun c => pickB m.vars (k : Int) && doesB m.vars c true st st (k : Int)) = true then [(k : Int)] else [])) := hide (by rw [upTo])
            go_wp2_with fail
            clear q0 qe
            obtain ⟨U, rfl⟩ : ∃ U, U = wr := ⟨_, rfl⟩
            go_loopw [7, 33] (fun okv i wr => ∃ (j : Nat) (ok : Bool), j ≤ en ∧ i = .int .i64 j ∧ okv = .bool ok ∧ Hid ((ok || (m.env.drop j).any (fun c => pickB m.vars (k : Int) && doesB m.vars c true st st (k : Int))) = (m.env).any (fun c => pickB m.vars (k : Int) && doesB m.vars c true st st (k : Int))) ∧ Below U.heap.size U wr) (fun _ i _ => en - (intOf i).toNat)
            case atStart => exact ⟨0, false, by omega, rfl, rfl, hide (by simp), Below.refl _ _⟩
            case round =>
              obtain ⟨j, ok, hj, rfl, rfl, HT, hbu⟩ := hrel
              have Hbu := hide hbu
              have hzu := hbu.size
              have Hbm := hide (Hb.out.trans (hbu.mono (by omega)))
              clear hbu
              by_cases hjl : j < en
              · have hjl' : ((j : Int) < (en : Int)) := by omega
                obtain ⟨b, off, ce, eA2, hbB, hku, ⟨⟨⟨go, gn, gA, gl, gc⟩, ⟨c0, c1, c2⟩, hex⟩, ⟨tA, tn, tc⟩, c3, hrs⟩⟩ := ((Hrm3.out.below (Hbm.out.mono (by omega))).2.2.2.2.1).at_ (k := j) hjl
                simp only [SL.v] at eA2 c0 c1 c2 c3
                subst eA2
                have HT2 : Hid ((ok || (pickB m.vars (k : Int) && doesB m.vars ce true st st (k : Int)) || (m.env.drop (j + 1)).any (fun c => pickB m.vars (k : Int) && doesB m.vars c true st st (k : Int))) = (m.env).any (fun c => pickB m.vars (k : Int) && doesB m.vars c true st st (k : Int))) := hide (by rw [← HT.out, drop_at hku, List.any_cons, Bool.or_assoc])
                clear hku HT
                have hbC := (Below.refl wr.heap.size wr).alloc (Nat.le_refl _) (.cells #[.int .i64 go, .int .i64 gn, .slice gA gl gc, .slice tA tn tc] 71)
                have Hrc := hide (RC.below (w := wr) (x := ⟨⟨go, gn, gA, gl, gc⟩, ⟨tA, tn, tc⟩⟩) (c := ce) ⟨hex, hrs⟩ (hbC.mono (by omega)))
                have HbC := hide (Hbu.out.trans (hbC.mono (by omega)))
                have HbM := hide (Hbm.out.trans (hbC.mono (by omega)))
                have hzC : wr.heap.size + 1 ≤ (wr.alloc (.cells #[.int .i64 go, .int .i64 gn, .slice gA gl gc, .slice tA tn tc] 71)).heap.size := by simp
                obtain ⟨⟨f0, f1, f2⟩, f3⟩ := box4 wr go gn gA gl gc tA tn tc
                have F0 := hide f0; have F1 := hide f1; have F2 := hide f2; have F3 := hide f3
                obtain ⟨q0, _⟩ := row12 (Hbx3.out.below HbM.out (by omega))
                simp only at q0
                clear hex hrs hbC
                cases ok
                · go_wp2_with fail
                  clear c0 c1 c2 c3 f0 f1 f2 f3 q0
                  generalize wr.alloc (.cells #[.int .i64 go, .int .i64 gn, .slice gA gl gc, .slice tA tn tc] 71) = X at *
                  refine (rpick_any B vA vn vc m.vars (k : Int) X Ho.out (by omega) (Hrm3.out.below (HbM.out.mono (by omega))).2.1).mono ?_
                  rintro e x1 ⟨rfl, hbx1⟩
                  have hzx1 := hbx1.size
                  have Hbx1 := hide (HbC.out.trans (hbx1.mono (by omega)))
                  have HbM1 := hide (HbM.out.trans (hbx1.mono (by omega)))
                  have Hrc1 := hide (Hrc.out.below (hbx1.mono (by omega)))
                  have f0 := (hbx1.cell (p := ⟨wr.heap.size, 0, none⟩) (by show wr.heap.size < X.heap.size; omega)).trans F0.out
                  have f1 := (hbx1.cell (p := ⟨wr.heap.size, 1, none⟩) (by show wr.heap.size < X.heap.size; omega)).trans F1.out
                  have f2 := (hbx1.cell (p := ⟨wr.heap.size, 2, none⟩) (by show wr.heap.size < X.heap.size; omega)).trans F2.out
                  have f3 := (hbx1.cell (p := ⟨wr.heap.size, 3, none⟩) (by show wr.heap.size < X.heap.size; omega)).trans F3.out
                  clear hbx1 HbC HbM Hrc F0 F1 F2 F3
                  cases hpk : pickB m.vars (k : Int)
                  · have HT3 : Hid ((false || (m.env.drop (j + 1)).any (fun c => pickB m.vars (k : Int) && doesB m.vars c true st st (k : Int))) = (m.env).any (fun c => pickB m.vars (k : Int) && doesB m.vars c true st st (k : Int))) := hide (by rw [← HT2.out]; simp [hpk])
                    clear HT2 f0 f1 f2 f3
                    go_wp2_with fail
                    go_roundw
                    case rel => exact ⟨j + 1, false, by omega, by go_num, rfl, HT3, Hbx1.out⟩
                    case measure => simp [intOf]; omega
                  · have HT3 : Hid ((doesB m.vars ce true st st (k : Int) || (m.env.drop (j + 1)).any (fun c => pickB m.vars (k : Int) && doesB m.vars c true st st (k : Int))) = (m.env).any (fun c => pickB m.vars (k : Int) && doesB m.vars c true st st (k : Int))) := hide (by rw [← HT2.out]; simp [hpk])
                    clear HT2
                    obtain ⟨q0, _⟩ := row12 (Hbx3.out.below HbM1.out (by omega))
                    simp only at q0
                    go_wp2_with fail
                    clear q0 f0 f1 f2 f3
                    refine (does_any B vA vn vc m.vars ⟨⟨go, gn, gA, gl, gc⟩, ⟨tA, tn, tc⟩⟩ ce true st st (k : Int) x1 Ho.out (by omega) Hrc1.out (Hrm3.out.below (HbM1.out.mono (by omega))).2.1 Hgs.out (Hgt.out k hlt)).mono ?_
                    rintro e x2 ⟨rfl, hbx2⟩
                    have hzx2 := hbx2.size
                    have Hbx2 := hide (Hbx1.out.trans (hbx2.mono (by omega)))
                    clear hbx2
                    generalize doesB m.vars ce true st st (k : Int) = dv at *
                    go_wp2_with fail
                    go_roundw
                    case rel => exact ⟨j + 1, dv, by omega, by go_num, rfl, HT3, Hbx2.out⟩
                    case measure => simp [intOf]; omega
                · have HT3 : Hid ((true || (m.env.drop (j + 1)).any (fun c => pickB m.vars (k : Int) && doesB m.vars c true st st (k : Int))) = (m.env).any (fun c => pickB m.vars (k : Int) && doesB m.vars c true st st (k : Int))) := hide (by rw [← HT2.out]; simp)
                  clear HT2
                  go_wp2_with fail
                  go_roundw
                  case rel => exact ⟨j + 1, true, by omega, by go_num, rfl, HT3, HbC.out⟩
                  case measure => simp [intOf]; omega
              · have hjl' : ¬ ((j : Int) < (en : Int)) := by omega
                have Hok : Hid ((m.env).any (fun c => pickB m.vars (k : Int) && doesB m.vars c true st st (k : Int)) = ok) := hide (by rw [← HT.out, List.drop_of_length_le (by rw [Hln.out]; omega)]; simp)
                have How4 := hide (own_below How.out Hbu.out)
                rw [Hok.out] at Hu0
                clear HT
                cases ok
                · rw [if_neg (by simp), List.append_nil] at Hu0
                  go_wp2_with fail
                  go_roundw
                  case rel => exact ⟨k + 1, n, c, O, by omega, by go_num, rfl, by omega, by rw [Hu0.out]; exact How4.out, Hbm.out⟩
                  case measure => simp [intOf]; omega
                · rw [if_pos rfl] at Hu0
                  go_wp2_with (at_builtin; refine wpList_append_lies _ rfl _ _ _ rfl w3.heap.size 3 i0 _ 1 8 Tryz.underlying32 Hi0.out Hi1.out Hi2.out Hi3.out rfl (by omega) (.slice O n c) n (ints (upTo (fun p => m.env.any (fun c => pickB m.vars p && doesB m.vars c true st st p)) k)) rfl (How4.out.alloc _) ⟨wr.heap.size, 0, none⟩ 1 1 [.int .i64 (k : Int)] rfl rfl (World.news_of_block (cs := #[.int .i64 (k : Int)]) (t := 3) (fr := (0, 0)) (heap_alloc_new wr _)) (by simp [Value.oneCell']) (by omega) (by unfold maxLen; omega) (by omega) (by simp; omega) _ rfl ?_; intro g5 cap5 w5 hown5 hgrow5 hat5 hlt5)
                  have hb5 : Below w3.heap.size w3 w5 := (Hbm.out.alloc (by omega) _).grown hgrow5 (by simp; omega) (fun j hj => by have := (How4.out.lt j hj).1; omega)
                  have Ho5 := hide hown5
                  rw [ints_snoc, ← Hu0.out] at Ho5
                  clear hown5 hgrow5 hat5
                  go_roundw
                  case rel => exact ⟨k + 1, n + 1, cap5, some ⟨g5, 0, none⟩, by omega, by go_num, rfl, by omega, Ho5.out, hb5⟩
                  case measure => simp [intOf]; omega
          · have hlt' : ¬ ((k : Int) < (t : Int)) := by omega
            obtain rfl : k = t := by omega
            go_wp2_with fail
            go_ret
            rw [Hf.out, ← hN] at *
            exact ⟨O, n, c, rfl, own_base0 How.out (by omega), by have := How.out.1; simpa [ints] using this, Hb3.out.trans (Hb.out.mono (by omega))⟩
end Go.Proofs.YtbppdalfcldodaaGreat
namespace Go.Proofs.YtbppdalfcldodaaGreat
open Go.RowKit Ex
set_option linter.unusedSimpArgs false
set_option linter.unusedVariables false

set_option maxRecDepth 100000 in
set_option maxHeartbeats 8000000 in
theorem rsys_any (B : Nat) (x : M8) (m : MT) (st p : Int) (w : World) (hB : B ≤ w.heap.size) (hrm : RM w B x m) :
    Calls Tryz.prog 46 #[.agg x.cells, .int .i64 st, .int .i64 p] w (IntsPost w (sysL m st p)) := by
  have hbx := (Below.refl w.heap.size w).alloc (Nat.le_refl _) (.cells x.cells 28)
  have Hrm0 := hide (hrm.below (hbx.mono hB))
  have Hbx0 := hide (boxM_new w x)
  have Hb0 := hide hbx
  have hz0 : w.heap.size + 1 ≤ (w.alloc (.cells x.cells 28)).heap.size := by simp
  have Ho := hide hrm.1
  obtain ⟨⟨vA, vn, vc⟩, ⟨io, im, iA, il, ic⟩, ⟨jo, jm, jA, jl, jc⟩, ⟨eA, en, ec⟩, ⟨sA, sn, sc⟩, ⟨aA, an, ac⟩, ⟨nA, nn, nc⟩, ⟨pA, pn, pc⟩⟩ := x
  have hnm : sn ≤ 2 ^ 63 - 1 := Nat.le_trans hrm.2.2.2.2.2.1.2.1 hrm.2.2.2.2.2.1.2.2.1
  have Hln : Hid (m.sys.length = sn) := hide hrm.2.2.2.2.2.1.1
  clear hrm hbx
  simp only [M8.cells, SL.v] at *
  obtain ⟨q0, q1, q2, q3, q4, q5, q6, q7, q8, q9, q10, q11⟩ := row12 Hbx0.out
  simp only at q0 q1 q2 q3 q4 q5 q6 q7 q8 q9 q10 q11
  go_enter Tryz.func46, Tryz.ntmps46
  go_wp2_with fail
  clear q0 q1 q2 q3 q4 q5 q6 q7 q8 q9 q10 q11
  generalize w.alloc (.cells #[.slice vA vn vc, .int .i64 io, .int .i64 im, .slice iA il ic, .int .i64 jo, .int .i64 jm, .slice jA jl jc, .slice eA en ec, .slice sA sn sc, .slice aA an ac, .slice nA nn nc, .slice pA pn pc] 28) = w0 at *
  generalize hN : w.heap.size = N at *
  refine (rmod_any B ⟨⟨vA, vn, vc⟩, ⟨io, im, iA, il, ic⟩, ⟨jo, jm, jA, jl, jc⟩, ⟨eA, en, ec⟩, ⟨sA, sn, sc⟩, ⟨aA, an, ac⟩, ⟨nA, nn, nc⟩, ⟨pA, pn, pc⟩⟩ m w0 (by omega) Hrm0.out).mono ?_
  rintro e w1 ⟨rfl, hb1⟩
  have hz1 := hb1.size
  have Hb1 := hide (Hb0.out.trans (hb1.mono (by omega)))
  have Hrm1 := hide (Hrm0.out.below (hb1.mono (by omega)))
  have Hbx1 := hide (Hbx0.out.below hb1 (by omega))
  clear hb1 Hb0 Hrm0 Hbx0
  by_cases hc : modE m = 0
  case neg =>
    have hcb : (modE m != 0) = true := by simp [hc]
    have Hf : Hid (sysL m st p = []) := hide (by unfold sysL; rw [if_neg (fun h => hc h.1)])
    clear hc
    go_wp2_with fail
    go_ret
    rw [Hf.out, ← hN] at *
    exact ints_none Hb1.out
  case pos =>
    have hcb : (modE m != 0) = false := by simp [hc]
    by_cases hs0 : st < 0
    case pos =>
      have hsb : decide (st < 0) = true := by simp [hs0]
      have Hf : Hid (sysL m st p = []) := hide (by unfold sysL; rw [if_neg (fun h => absurd h.2.1 (by omega))])
      clear hc hs0
      go_wp2_with fail
      go_ret
      rw [Hf.out, ← hN] at *
      exact ints_none Hb1.out
    case neg =>
      have hsb : decide (st < 0) = false := by simp; omega
      obtain ⟨q0, _⟩ := row12 Hbx1.out
      simp only at q0
      go_wp2_with fail
      clear q0
      refine (Dom.rtotal_any vA vn vc B m.vars w1 Ho.out.1 Ho.out.2.1 Ho.out.2.2.1 (by omega) Hrm1.out.2.1 Ho.out.2.2.2).mono ?_
      rintro e w2 ⟨rfl, hb2⟩
      have hz2 := hb2.size
      have Hb2 := hide (Hb1.out.trans (hb2.mono (by omega)))
      have Hrm2 := hide (Hrm1.out.below (hb2.mono (by omega)))
      have Hbx2 := hide (Hbx1.out.below hb2 (by omega))
      clear hb2 Hb1 Hrm1 Hbx1
      obtain ⟨t, ht, ht512⟩ : ∃ t : Nat, Dom.totL m.vars = (t : Int) ∧ t ≤ 512 := ⟨totN m, by unfold totN; have := (Dom.totL_bd m.vars).1; omega, by unfold totN; have := (Dom.totL_bd m.vars).2; omega⟩
      have htn : totN m = t := by unfold totN; rw [ht]; rfl
      have Ht := hide ht
      have Hmay := hide (show Dom.mayL m.vars = 0 from ((modE_iff m).1 hc).1)
      rw [ht]
      by_cases hst : (t : Int) ≤ st
      case pos =>
        have hstb : decide ((t : Int) ≤ st) = true := by simp [hst]
        have Hf : Hid (sysL m st p = []) := hide (by unfold sysL; rw [if_neg (fun h => absurd h.2.2.1 (by rw [ht]; omega))])
        clear hc hs0 hst ht htn
        go_wp2_with fail
        go_ret
        rw [Hf.out, ← hN] at *
        exact ints_none Hb2.out
      case neg =>
        have hstb : decide ((t : Int) ≤ st) = false := by simp; omega
        obtain ⟨q0, _⟩ := row12 Hbx2.out
        simp only at q0
        go_wp2_with fail
        clear q0
        refine (rpick_any B vA vn vc m.vars p w2 Ho.out (by omega) Hrm2.out.2.1).mono ?_
        rintro e w2' ⟨rfl, hb2'⟩
        have hz2' := hb2'.size
        have Hb2' := hide (Hb2.out.trans (hb2'.mono (by omega)))
        have Hrm2' := hide (Hrm2.out.below (hb2'.mono (by omega)))
        have Hbx2' := hide (Hbx2.out.below hb2' (by omega))
        clear hb2' Hb2 Hrm2 Hbx2
        obtain ⟨Hb2, Hrm2, Hbx2⟩ : _ ∧ _ ∧ _ := ⟨Hb2', Hrm2', Hbx2'⟩
        clear Hb2' Hrm2' Hbx2'
        obtain ⟨w2, rfl⟩ : ∃ w, w = w2' := ⟨_, rfl⟩
        cases hpp : pickB m.vars p
        · have Hf : Hid (sysL m st p = []) := hide (by unfold sysL; rw [if_neg (fun h => by rw [hpp] at h; cases h.2.2.2)])
          clear hc hpp hs0 hst
          go_wp2_with fail
          go_ret
          rw [Hf.out, ← hN] at *
          exact ints_none Hb2.out
        have Hf : Hid (sysL m st p = upTo (fun s => m.sys.any (fun c => (Dom.partL m.vars s true == p) && doesB m.vars c false st p s)) t) := hide (by unfold sysL; rw [if_pos ⟨hc, by omega, by rw [ht]; omega, hpp⟩, htn])
        clear hc hpp ht htn
        clear hcb hsb hstb
        obtain ⟨q0, _⟩ := row12 Hbx2.out
        simp only at q0
        go_wp2_with fail
        clear q0
        refine (Dom.rtotal_any vA vn vc B m.vars w2 Ho.out.1 Ho.out.2.1 Ho.out.2.2.1 (by omega) Hrm2.out.2.1 Ho.out.2.2.2).mono ?_
        rintro e w3 ⟨rfl, hb3⟩
        have hz3 := hb3.size
        have Hb3 := hide (Hb2.out.trans (hb3.mono (by omega)))
        have Hrm3 := hide (Hrm2.out.below (hb3.mono (by omega)))
        have Hbx3 := hide (Hbx2.out.below hb3 (by omega))
        clear hb3 Hb2 Hrm2 Hbx2
        rw [Ht.out]
        have Hgs : Hid (Dom.goodS m.vars st = true) := hide (by unfold Dom.goodS; simp [Hmay.out, Ht.out]; omega)
        have Hgt : Hid (∀ k : Nat, k < t → Dom.goodS m.vars (k : Int) = true) := hide (fun k hk => by unfold Dom.goodS; simp [Hmay.out, Ht.out]; omega)
        clear hs0 hst
        go_wp2_with fail
        obtain ⟨i0, hi0, hi1, hi2, hi3⟩ := info_parts Dom.info3
        have Hi0 := hide hi0; have Hi1 := hide hi1; have Hi2 := hide hi2; have Hi3 := hide hi3
        clear hi0 hi1 hi2 hi3
        go_loopw [7, 36] (fun ov i wr => ∃ (k n c : Nat) (O : Option Addr), k ≤ t ∧ i = .int .i64 k ∧ ov = .slice O n c ∧ n ≤ k ∧ wr.ownsRow w3.heap.size 3 1 (.slice O n c) n (ints (upTo (fun s => m.sys.any (fun c => (Dom.partL m.vars s true == p) && doesB m.vars c false st p s)) k)) ∧ Below w3.heap.size w3 wr) (fun _ i _ => t - (intOf i).toNat)
        case atStart => exact ⟨0, 0, 0, none, by omega, rfl, rfl, Nat.le_refl _, ⟨rfl, .inl ⟨rfl, rfl⟩⟩, Below.refl _ _⟩
        case round =>
          obtain ⟨k, n, c, O, hk, rfl, rfl, hn, how, hb⟩ := hrel
          have How := hide how
          have Hb := hide hb
          have hzr := hb.size
          clear how hb
          by_cases hlt : k < t
          · have hlt' : ((k : Int) < (t : Int)) := by omega
            obtain ⟨q0, _, _, _, _, _, _, _, qe, _, _, _⟩ := row12 (Hbx3.out.below Hb.out (by omega))
            simp only at q0 qe
            have Hu0 : Hid (upTo (fun s => m.sys.any (fun c => (Dom.partL m.vars s true == p) && doesB m.vars c false st p s)) (k + 1) = upTo (fun s => m.sys.any (fun c => (Dom.partL m.vars s true == p) && doesB m.vars c false st p s)) k ++ (if (m.sys).any (fun c => (Dom.partL m.vars (k : Int) true == p) && doesB m.vars c false st p (k : Int)) = true then [(k : Int)] else [])) := hide (by rw [upTo])
            go_wp2_with fail
            clear q0 qe
            obtain ⟨U, rfl⟩ : ∃ U, U = wr := ⟨_, rfl⟩
            go_loopw [9, 42] (fun okv i wr => ∃ (j : Nat) (ok : Bool), j ≤ sn ∧ i = .int .i64 j ∧ okv = .bool ok ∧ Hid ((ok || (m.sys.drop j).any (fun c => (Dom.partL m.vars (k : Int) true == p) && doesB m.vars c false st p (k : Int))) = (m.sys).any (fun c => (Dom.partL m.vars (k : Int) true == p) && doesB m.vars c false st p (k : Int))) ∧ Below U.heap.size U wr) (fun _ i _ => sn - (intOf i).toNat)
            case atStart => exact ⟨0, false, by omega, rfl, rfl, hide (by simp), Below.refl _ _⟩
            case round =>
              obtain ⟨j, ok, hj, rfl, rfl, HT, hbu⟩ := hrel
              have Hbu := hide hbu
              have hzu := hbu.size
              have Hbm := hide (Hb.out.trans (hbu.mono (by omega)))
              clear hbu
              by_cases hjl : j < sn
              · have hjl' : ((j : Int) < (sn : Int)) := by omega
                obtain ⟨b, off, ce, eA2, hbB, hku, ⟨⟨⟨go, gn, gA, gl, gc⟩, ⟨c0, c1, c2⟩, hex⟩, ⟨tA, tn, tc⟩, c3, hrs⟩⟩ := ((Hrm3.out.below (Hbm.out.mono (by omega))).2.2.2.2.2.1).at_ (k := j) hjl
                simp only [SL.v] at eA2 c0 c1 c2 c3
                subst eA2
                have HT2 : Hid ((ok || ((Dom.partL m.vars (k : Int) true == p) && doesB m.vars ce false st p (k : Int)) || (m.sys.drop (j + 1)).any (fun c => (Dom.partL m.vars (k : Int) true == p) && doesB m.vars c false st p (k : Int))) = (m.sys).any (fun c => (Dom.partL m.vars (k : Int) true == p) && doesB m.vars c false st p (k : Int))) := hide (by rw [← HT.out, drop_at hku, List.any_cons, Bool.or_assoc])
                clear hku HT
                have hbC := (Below.refl wr.heap.size wr).alloc (Nat.le_refl _) (.cells #[.int .i64 go, .int .i64 gn, .slice gA gl gc, .slice tA tn tc] 71)
                have Hrc := hide (RC.below (w := wr) (x := ⟨⟨go, gn, gA, gl, gc⟩, ⟨tA, tn, tc⟩⟩) (c := ce) ⟨hex, hrs⟩ (hbC.mono (by omega)))
                have HbC := hide (Hbu.out.trans (hbC.mono (by omega)))
                have HbM := hide (Hbm.out.trans (hbC.mono (by omega)))
                have hzC : wr.heap.size + 1 ≤ (wr.alloc (.cells #[.int .i64 go, .int .i64 gn, .slice gA gl gc, .slice tA tn tc] 71)).heap.size := by simp
                obtain ⟨⟨f0, f1, f2⟩, f3⟩ := box4 wr go gn gA gl gc tA tn tc
                have F0 := hide f0; have F1 := hide f1; have F2 := hide f2; have F3 := hide f3
                obtain ⟨q0, _⟩ := row12 (Hbx3.out.below HbM.out (by omega))
                simp only at q0
                clear hex hrs hbC
                cases ok
                · go_wp2_with fail
                  clear c0 c1 c2 c3 f0 f1 f2 f3 q0
                  generalize wr.alloc (.cells #[.int .i64 go, .int .i64 gn, .slice gA gl gc, .slice tA tn tc] 71) = X at *
                  refine (Dom.rpart_any vA vn vc B m.vars (k : Int) true X Ho.out.1 Ho.out.2.1 Ho.out.2.2.1 (by omega) (Hrm3.out.below (HbM.out.mono (by omega))).2.1 Ho.out.2.2.2).mono ?_
                  rintro e x1 ⟨rfl, hbx1⟩
                  have hzx1 := hbx1.size
                  have Hbx1 := hide (HbC.out.trans (hbx1.mono (by omega)))
                  have HbM1 := hide (HbM.out.trans (hbx1.mono (by omega)))
                  have Hrc1 := hide (Hrc.out.below (hbx1.mono (by omega)))
                  have f0 := (hbx1.cell (p := ⟨wr.heap.size, 0, none⟩) (by show wr.heap.size < X.heap.size; omega)).trans F0.out
                  have f1 := (hbx1.cell (p := ⟨wr.heap.size, 1, none⟩) (by show wr.heap.size < X.heap.size; omega)).trans F1.out
                  have f2 := (hbx1.cell (p := ⟨wr.heap.size, 2, none⟩) (by show wr.heap.size < X.heap.size; omega)).trans F2.out
                  have f3 := (hbx1.cell (p := ⟨wr.heap.size, 3, none⟩) (by show wr.heap.size < X.heap.size; omega)).trans F3.out
                  clear hbx1 HbC HbM Hrc F0 F1 F2 F3
                  cases hpk : (Dom.partL m.vars (k : Int) true == p)
                  · have HT3 : Hid ((false || (m.sys.drop (j + 1)).any (fun c => (Dom.partL m.vars (k : Int) true == p) && doesB m.vars c false st p (k : Int))) = (m.sys).any (fun c => (Dom.partL m.vars (k : Int) true == p) && doesB m.vars c false st p (k : Int))) := hide (by rw [← HT2.out]; simp [hpk])
                    clear HT2 f0 f1 f2 f3
                    go_wp2_with fail
                    go_roundw
                    case rel => exact ⟨j + 1, false, by omega, by go_num, rfl, HT3, Hbx1.out⟩
                    case measure => simp [intOf]; omega
                  · have HT3 : Hid ((doesB m.vars ce false st p (k : Int) || (m.sys.drop (j + 1)).any (fun c => (Dom.partL m.vars (k : Int) true == p) && doesB m.vars c false st p (k : Int))) = (m.sys).any (fun c => (Dom.partL m.vars (k : Int) true == p) && doesB m.vars c false st p (k : Int))) := hide (by rw [← HT2.out]; simp [hpk])
                    clear HT2
                    obtain ⟨q0, _⟩ := row12 (Hbx3.out.below HbM1.out (by omega))
                    simp only at q0
                    go_wp2_with fail
                    clear q0 f0 f1 f2 f3
                    refine (does_any B vA vn vc m.vars ⟨⟨go, gn, gA, gl, gc⟩, ⟨tA, tn, tc⟩⟩ ce false st p (k : Int) x1 Ho.out (by omega) Hrc1.out (Hrm3.out.below (HbM1.out.mono (by omega))).2.1 Hgs.out (Hgt.out k hlt)).mono ?_
                    rintro e x2 ⟨rfl, hbx2⟩
                    have hzx2 := hbx2.size
                    have Hbx2 := hide (Hbx1.out.trans (hbx2.mono (by omega)))
                    clear hbx2
                    generalize doesB m.vars ce false st p (k : Int) = dv at *
                    go_wp2_with fail
                    go_roundw
                    case rel => exact ⟨j + 1, dv, by omega, by go_num, rfl, HT3, Hbx2.out⟩
                    case measure => simp [intOf]; omega
                · have HT3 : Hid ((true || (m.sys.drop (j + 1)).any (fun c => (Dom.partL m.vars (k : Int) true == p) && doesB m.vars c false st p (k : Int))) = (m.sys).any (fun c => (Dom.partL m.vars (k : Int) true == p) && doesB m.vars c false st p (k : Int))) := hide (by rw [← HT2.out]; simp)
                  clear HT2
                  go_wp2_with fail
                  go_roundw
                  case rel => exact ⟨j + 1, true, by omega, by go_num, rfl, HT3, HbC.out⟩
                  case measure => simp [intOf]; omega
              · have hjl' : ¬ ((j : Int) < (sn : Int)) := by omega
                have Hok : Hid ((m.sys).any (fun c => (Dom.partL m.vars (k : Int) true == p) && doesB m.vars c false st p (k : Int)) = ok) := hide (by rw [← HT.out, List.drop_of_length_le (by rw [Hln.out]; omega)]; simp)
                have How4 := hide (own_below How.out Hbu.out)
                rw [Hok.out] at Hu0
                clear HT
                cases ok
                · rw [if_neg (by simp), List.append_nil] at Hu0
                  go_wp2_with fail
                  go_roundw
                  case rel => exact ⟨k + 1, n, c, O, by omega, by go_num, rfl, by omega, by rw [Hu0.out]; exact How4.out, Hbm.out⟩
                  case measure => simp [intOf]; omega
                · rw [if_pos rfl] at Hu0
                  go_wp2_with (at_builtin; refine wpList_append_lies _ rfl _ _ _ rfl w3.heap.size 3 i0 _ 1 8 Tryz.underlying32 Hi0.out Hi1.out Hi2.out Hi3.out rfl (by omega) (.slice O n c) n (ints (upTo (fun s => m.sys.any (fun c => (Dom.partL m.vars s true == p) && doesB m.vars c false st p s)) k)) rfl (How4.out.alloc _) ⟨wr.heap.size, 0, none⟩ 1 1 [.int .i64 (k : Int)] rfl rfl (World.news_of_block (cs := #[.int .i64 (k : Int)]) (t := 3) (fr := (0, 0)) (heap_alloc_new wr _)) (by simp [Value.oneCell']) (by omega) (by unfold maxLen; omega) (by omega) (by simp; omega) _ rfl ?_; intro g5 cap5 w5 hown5 hgrow5 hat5 hlt5)
                  have hb5 : Below w3.heap.size w3 w5 := (Hbm.out.alloc (by omega) _).grown hgrow5 (by simp; omega) (fun j hj => by have := (How4.out.lt j hj).1; omega)
                  have Ho5 := hide hown5
                  rw [ints_snoc, ← Hu0.out] at Ho5
                  clear hown5 hgrow5 hat5
                  go_roundw
                  case rel => exact ⟨k + 1, n + 1, cap5, some ⟨g5, 0, none⟩, by omega, by go_num, rfl, by omega, Ho5.out, hb5⟩
                  case measure => simp [intOf]; omega
          · have hlt' : ¬ ((k : Int) < (t : Int)) := by omega
            obtain rfl : k = t := by omega
            go_wp2_with fail
            go_ret
            rw [Hf.out, ← hN] at *
            exact ⟨O, n, c, rfl, own_base0 How.out (by omega), by have := How.out.1; simpa [ints] using this, Hb3.out.trans (Hb.out.mono (by omega))⟩
end Go.Proofs.YtbppdalfcldodaaGreat
