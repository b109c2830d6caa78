/- The walk of the statement SortOne. -/
import Derived.Test.YtdjllpejonfpgaaSOne
namespace Go.Proofs.Ytdjllpejonfpgaa
open Go.RowKit Ex
open Go.Sort (grow)
set_option linter.unusedSimpArgs false
set_option linter.unusedVariables false

set_option maxRecDepth 100000 in
set_option maxHeartbeats 40000000 in
theorem one_any (B : Nat) (Av : Option Addr) (nv cv : Nat) (lv : List Dom.V) (d : Nat) (op n : Int) (A : Option Addr) (len cap : Nat) (t : T) (w : World) (ho : OkV nv cv lv) (hB : B ≤ w.heap.size) (hre : RE w B (d + 1) op n A len cap t) (hrv : Dom.RV w B Av nv lv) :
    Calls Try.prog 4 #[.slice Av nv cv, .agg #[.int .i64 op, .int .i64 n, .slice A len cap]] w fun e w' => e = .returned (.bool true) ∧ Below w.heap.size w w' := by
  have hbx : Below w.heap.size w (w.alloc (.cells #[.int .i64 op, .int .i64 n, .slice A len cap] 25)) := (Below.refl _ _).alloc (Nat.le_refl _) _
  have Hre := hide (hre.below (hbx.mono hB))
  have Hrv := hide (hrv.below (hbx.mono hB))
  have Hbox := hide (box_new w op n A len cap 25)
  have hz0 : w.heap.size + 1 ≤ (w.alloc (.cells #[.int .i64 op, .int .i64 n, .slice A len cap] 25)).heap.size := by simp
  have Hbx := hide hbx
  have Ho := hide ho
  have Htm := hide hre.eq_mk
  obtain ⟨hlen, hlc, hcm⟩ := hre.bound
  have Hlen := hide hlen
  unfold maxLen at hcm
  clear hre hrv hbx ho hlen
  obtain ⟨h1a, h1b⟩ := vheavy_bd lv
  obtain ⟨h2a, h2b⟩ := heavy_bd t
  by_cases hgood : ¬ 0 < Dom.heavyGo 0 lv + heavyE t ∧ Dom.mayL lv = 0 ∧ mayE t = 0
  · obtain ⟨g1, g2, g3⟩ := hgood
    have hhb : decide (0 < Dom.heavyGo 0 lv + heavyE t) = false := by rw [decide_eq_false_iff_not]; exact g1
    have m1 : (Dom.mayL lv != 0) = false := by simp [g2]
    have m2 : (mayE t != 0) = false := by simp [g3]
    have Hsd := hide (may_sound g3)
    have Hse := hide (sort_good g2 g3)
    have Hsr := hide (may_srt g2)
    have Hm := hide g3
    have Hml := hide g2
    go_enter Try.func4, Try.ntmps4
    go_wp2_with fail
    generalize w.alloc (.cells #[.int .i64 op, .int .i64 n, .slice A len cap] 25) = W at *
    have hBW : B ≤ W.heap.size := by omega
    have C0 := cell_regrown Hbox.out.1
    have C1 := cell_regrown Hbox.out.2.1
    have C2 := cell_regrown Hbox.out.2.2
    refine wp_region_quiet_below (by kernel_rfl) (by kernel_rfl) ?_
    repeat (go_big_quiet_step (first | (go_at_call 7; exact q_vheavy hBW Ho (by assumption)) | (go_at_call 8; exact q_heavy hBW (by assumption)) | (go_at_call 14; exact q_rmayV hBW Ho (by assumption)) | (go_at_call 15; exact q_rmayE hBW (by assumption))))
    refine wpQuiet_nil ?_
    intro w3 hw3
    obtain ⟨p, hp⟩ := hw3
    have hb3 : Below W.heap.size W w3 := by rw [hp]; exact below_regrown W p.d p.os
    have hz3 := hb3.size
    have Hb3 := hide (Hbx.out.trans (hb3.mono (by omega)))
    have Hre3 := hide (Hre.out.below (hb3.mono hBW))
    have Hrv3 := hide (Hrv.out.below (hb3.mono hBW))
    have Hbox3 := hide (Hbox.out.below hb3 (by omega))
    have hz4 : w.heap.size + 1 ≤ w3.heap.size := by omega
    clear hp hb3 C0 C1 C2 Hbx Hre Hrv Hbox hBW hz3 hz0 W
    have hBW : B ≤ w3.heap.size := by omega
    obtain ⟨f0, f1, f2⟩ := Hbox3.out
    go_wp2_with fail
    clear h1a h1b h2a h2b hhb m1 m2 g1 g2 g3 f0 f1 f2
    refine (of_any B Av nv cv lv (d + 1) op n A len cap t w3 Ho.out.1 Ho.out.2.1 Ho.out.2.2.1 hBW Hre3.out Hrv3.out Ho.out.2.2.2).mono ?_
    rintro e w4 ⟨rfl, hb4⟩
    have hz5 := hb4.size
    have Hb4 := hide (Hb3.out.trans (hb4.mono (by omega)))
    have Hre4 := hide (Hre3.out.below (hb4.mono hBW))
    have Hrv4 := hide (Hrv3.out.below (hb4.mono hBW))
    have Hbox4 := hide (Hbox3.out.below hb4 (by omega))
    clear hb4 Hb3 Hre3 Hrv3 Hbox3
    rw [Hse.out]
    have Her := hide (tyT_err lv t)
    have Hval := hide (tyT_val Hsr.out t Hsd.out)
    have Hty := hide (tyT_eq lv t)
    obtain ⟨r, hr⟩ : ∃ r, tyT lv t = r := ⟨_, rfl⟩
    have Hr := hide hr
    rw [hr] at Her Hval Hty ⊢
    clear hr
    obtain ⟨s, x⟩ := r
    simp only at Her Hval ⊢
    by_cases hx : x = 0
    · have hxb : (x != 0) = false := by simp [hx]
      subst hx
      have hKok : (tyK lv t.kids).2 = 0 := by
        have h := Hty.out
        split at h
        · assumption
        · rename_i h2; injection h with h3 h4; exact absurd h4.symm h2
      have HN : Hid (tyN lv op n (tyK lv t.kids).1 = (s, 0)) := hide (by
        have h := Hty.out
        rw [if_pos hKok, show t.op = op by rw [Htm.out]; rfl, show t.n = n by rw [Htm.out]; rfl] at h
        exact h.symm)
      have Hat := hide (tyK_at lv t.kids)
      have HKl := hide (tyK_len lv t.kids hKok)
      have HK := hide hKok
      have hs12 := Hval.out rfl
      have hsb : (s != 1) = false ∨ ((s != 1) = true ∧ (s != 2) = false) := by
        rcases hs12 with h | h
        · exact .inl (by simp [h])
        · exact .inr ⟨by simp [h], by simp [h]⟩
      obtain ⟨ss, hss⟩ : ∃ ss, (tyK lv t.kids).1 = ss := ⟨_, rfl⟩
      rw [hss] at HN HKl
      have Hss := hide hss
      clear hKok Her Hval Hty hxb hss
      obtain ⟨i0, hi0, hi1, hi2, hi3⟩ := info_parts info3
      have Hi0 := hide hi0; have Hi1 := hide hi1; have Hi2 := hide hi2; have Hi3 := hide hi3
      clear hi0 hi1 hi2 hi3
      have Hn1 : Hid (needE lv t 2 true true true = if s = 2 then 0 else 4) := hide (by
        have h := need_kind (l := lv) (t := t) (want := 2) (by rw [Hse.out, Hr.out])
        rw [Hse.out, Hr.out] at h; exact h)
      have Hn2 : Hid (needE lv t 1 true true true = if s = 1 then 0 else 4) := hide (by
        have h := need_kind (l := lv) (t := t) (want := 1) (by rw [Hse.out, Hr.out])
        rw [Hse.out, Hr.out] at h; exact h)
      have Hko : Hid (kidsOf op = (len : Int)) := hide (by
        have h := sound_len15 Hsd.out
        rw [Hlen.out, show t.op = op by rw [Htm.out]; rfl] at h
        exact h.symm)
      have hl3 : len ≤ 3 := by
        have h := (sound_op Hsd.out).2.2
        rw [Hlen.out] at h; exact h
      have Hmk : Hid (∀ k u, t.kids[k]? = some u → sortE lv u = tyT lv u) := hide (fun k u hu => sort_good Hml.out (may_kid Hm.out hu))
      clear Hr Hse Hsr Htm
      rcases hsb with hsb | ⟨hsb, hsb2⟩
      all_goals
        obtain ⟨f0, f1, f2⟩ := Hbox4.out
        go_wp2_with fail
        clear f0 f1 f2
        go_loopw [7, 61] (fun o i wr => ∃ (k cc : Nat) (O : Option Addr), k ≤ len ∧ i = .int .i64 k ∧ o = .slice O k cc ∧ wr.ownsRow w4.heap.size 3 1 (.slice O k cc) k (ints (ss.take k)) ∧ Below w4.heap.size w4 wr) (fun _ i _ => len - (intOf i).toNat)
        case atStart => exact ⟨0, 0, none, by omega, rfl, rfl, ⟨rfl, .inl ⟨rfl, rfl⟩⟩, Below.refl _ _⟩
        case round =>
          obtain ⟨k, cc, O, hk, rfl, rfl, hown, hb⟩ := hrel
          have Hown := hide hown
          have Hb := hide hb
          clear hown hb
          have hzr := Hb.out.size
          by_cases hlt : k < len
          · have hlt' : ((k : Int) < (len : Int)) := by omega
            obtain ⟨b, off, u, op2, n2, A2, l2, c2, rfl, hbB, hku, ⟨c0, c1, cs⟩, hre2⟩ := (Hre4.out.below (Hb.out.mono (by omega))).at_ hlt
            obtain ⟨hu0, huk⟩ := Hat.out k u HK.out hku
            rw [Hss.out] at huk
            have Hsu := hide (Hmk.out k u hku)
            have Htk := hide (take_snoc huk)
            clear hku huk
            have Hre5 := hide (hre2.below ((Below.refl B wr).alloc (by omega) (.cells #[.int .i64 op2, .int .i64 n2, .slice A2 l2 c2] 25)))
            have Hrv5 := hide ((Hrv4.out.below (Hb.out.mono (by omega))).below ((Below.refl B wr).alloc (by omega) (.cells #[.int .i64 op2, .int .i64 n2, .slice A2 l2 c2] 25)))
            clear hre2
            have hz6 : wr.heap.size + 1 ≤ (wr.alloc (.cells #[.int .i64 op2, .int .i64 n2, .slice A2 l2 c2] 25)).heap.size := by simp
            have Hown5 := hide (Hown.out.alloc (.cells #[.int .i64 op2, .int .i64 n2, .slice A2 l2 c2] 25))
            have Hb5 := hide (Hb.out.alloc (by omega) (.cells #[.int .i64 op2, .int .i64 n2, .slice A2 l2 c2] 25))
            go_wp2_with fail
            clear c0 c1 cs
            generalize wr.alloc (.cells #[.int .i64 op2, .int .i64 n2, .slice A2 l2 c2] 25) = wK at *
            refine (of_any B Av nv cv lv d op2 n2 A2 l2 c2 u wK Ho.out.1 Ho.out.2.1 Ho.out.2.2.1 (by omega) Hre5.out Hrv5.out Ho.out.2.2.2).mono ?_
            rintro e w5 ⟨rfl, hb6⟩
            rw [Hsu.out, hu0]
            have hz7 := hb6.size
            have Hb6 := hide (Hb5.out.trans (hb6.mono (by omega)))
            have Hown6 : Hid (w5.ownsRow w4.heap.size 3 1 (.slice O k cc) k (ints (ss.take k))) := hide (Hown5.out.kept (w' := w5) (row := none) ⟨hb6.os, hb6.tape, hb6.output, hb6.size, fun i hi _ => hb6.block i hi⟩ (by cases h : (Value.slice O k cc).ownBlock <;> simp))
            clear hb6 Hb5 Hown5 hu0 Hsu
            generalize (tyT lv u).1 = x9 at *
            go_wp2_with (at_builtin; refine wpList_append_lies _ rfl _ _ _ rfl w4.heap.size 3 i0 _ 1 8 Try.underlying36 Hi0.out Hi1.out Hi2.out Hi3.out rfl (by omega) (.slice O k cc) k (ints (ss.take k)) rfl (Hown6.out.alloc _) ⟨w5.heap.size, 0, none⟩ 1 1 [.int .i64 x9] rfl rfl (World.news_of_block (cs := #[.int .i64 x9]) (t := 3) (fr := (0, 0)) (heap_alloc_new w5 _)) (by simp [Value.oneCell']) (by omega) (by unfold maxLen; omega) (by omega) (by simp; omega) _ rfl ?_; intro gg cap9 w6 hown7 hgrow hat hlt7)
            have Hb7 : Hid (Below w4.heap.size w4 w6) := hide ((Hb6.out.alloc (by omega) _).grown hgrow (by simp; omega) (fun q hq => (Hown6.out.lt q hq).1))
            have Hown7 : Hid (w6.ownsRow w4.heap.size 3 1 (.slice (some ⟨gg, 0, none⟩) (k + 1) cap9) (k + 1) (ints (ss.take (k + 1)))) := hide (by rw [Htk.out, ints, List.map_append]; exact hown7)
            clear hown7 hgrow hat hlt7
            go_wp2_with fail
            go_roundw
            case rel => exact ⟨k + 1, cap9, some ⟨gg, 0, none⟩, by omega, by go_num, rfl, Hown7.out, Hb7.out⟩
            case measure => simp [intOf]; omega
          · have hlt' : ¬ ((k : Int) < (len : Int)) := by omega
            obtain rfl : k = len := by omega
            have Hri : Hid (RI wr wr.heap.size O k ss) := hide (by
              have h := own_ri Hown.out
              rw [List.take_of_length_le (by rw [HKl.out, Hlen.out]; omega)] at h
              exact h)
            clear Hown Hat HK HKl Hss Hmk Hi0 Hi1 Hi2 Hi3 hlt
            have Hre9 := hide (Hre4.out.below (Hb.out.mono (by omega)))
            have Hrv9 := hide (Hrv4.out.below (Hb.out.mono (by omega)))
            have Hbox9 := hide (Hbox4.out.below Hb.out (by omega))
            have Hb9 := hide (Hb4.out.trans (Hb.out.mono (by omega)))
            have hBW9 : B ≤ wr.heap.size := by omega
            have hz9 : w.heap.size + 1 ≤ wr.heap.size := by omega
            clear Hre4 Hrv4 Hbox4 Hb4 Hb
            obtain ⟨wA, rfl⟩ : ∃ wA, wA = wr := ⟨_, rfl⟩
            have C0 := cell_regrown Hbox9.out.1
            have C1 := cell_regrown Hbox9.out.2.1
            have C2 := cell_regrown Hbox9.out.2.2
            go_wp2_with fail
            refine wp_region_quiet_below (by kernel_rfl) (by kernel_rfl) ?_
            repeat (go_big_quiet_step ((go_at_call 12; exact q_needs hBW9 Ho (by assumption) (by assumption))))
            refine wpQuiet_nil ?_
            intro w9 hw9
            obtain ⟨p, hp⟩ := hw9
            have hb10 : Below wA.heap.size wA w9 := by rw [hp]; exact below_regrown wA p.d p.os
            have hz10 := hb10.size
            have Hb10 := hide (Hb9.out.trans (hb10.mono (by omega)))
            obtain ⟨f0, f1, f2⟩ := Hbox9.out.below hb10 (by omega)
            have Hri10 := hide ((Hri.out.below hb10).more hz10)
            clear hp hb10 C0 C1 C2 Hb9 Hre9 Hrv9 Hbox9 Hri
            rw [Hn1.out, Hn2.out]
            have hkk : ((k : Int) != (k : Int)) = false := by simp
            rcases hs12 with hs | hs
            · subst hs
              simp only [show ((1 : Int) = 2) = False by simp, show ((1 : Int) = 1) = True by simp, if_true, if_false]
              go_wp2_with fail
              refine (kids_any op _).mono ?_
              rintro e wq ⟨rfl, rfl⟩
              rw [Hko.out]
              by_cases o15 : op = 15
              · have o15b : (op == 15) = true := by simp [o15]
                have hk3 : k = 3 := by
                  have h := Hko.out
                  rw [o15] at h
                  have h2 : kidsOf 15 = 3 := by decide
                  omega
                subst hk3
                obtain ⟨y0, y1, y2⟩ := ty_if (by rw [← o15]; exact HN.out)
                obtain ⟨bb, bo, rfl, hbb, hcc⟩ := ri_cells Hri10.out (by omega)
                have k0 := hcc 0 (by omega)
                rw [Nat.add_zero] at k0
                have k1 := hcc 1 (by omega)
                have k2 := hcc 2 (by omega)
                rw [y0] at k0
                rw [y1] at k1
                rw [y2] at k2
                clear o15 hcc y0 y1 y2
                go_wp2_with fail
                refine (awake_any _).mono ?_
                rintro e wT ⟨rfl, hbT⟩
                have Hf := hide (Hb10.out.trans (hbT.mono (by omega)))
                clear hbT
                go_wp2_with fail
                go_ret
                exact ⟨rfl, Hf.out⟩
              · have o15b : (op == 15) = false := by simp [o15]
                by_cases o9 : op = 9
                · have o9b : (op == 9) = true := by simp [o9]
                  have hk2 : k = 2 := by
                    have h := Hko.out
                    rw [o9] at h
                    have h2 : kidsOf 9 = 2 := by decide
                    omega
                  subst hk2
                  obtain ⟨y0, y1⟩ := ty_same (by rw [← o9]; exact HN.out)
                  obtain ⟨bb, bo, rfl, hbb, hcc⟩ := ri_cells Hri10.out (by omega)
                  have k0 := hcc 0 (by omega)
                  rw [Nat.add_zero] at k0
                  have k1 := hcc 1 (by omega)
                  rw [y0] at k0
                  have D0 := cell_regrown k0
                  have D1 := cell_regrown k1
                  clear o15 o9 hcc y0 y1
                  generalize ss.getD 1 0 = z1 at *
                  go_wp2_with fail
                  refine wp_region_quiet_below (by kernel_rfl) (by kernel_rfl) ?_
                  repeat (go_big_quiet_step ((go_at_call 9; exact q_awake3)))
                  refine wpQuiet_nil ?_
                  intro wZ hwZ
                  obtain ⟨p, hp⟩ := hwZ
                  have hbZ : Below w9.heap.size w9 wZ := by rw [hp]; exact below_regrown w9 p.d p.os
                  have Hf := hide (Hb10.out.trans (hbZ.mono (by omega)))
                  clear hp hbZ D0 D1 k0 k1
                  go_wp2_with fail
                  go_ret
                  exact ⟨rfl, Hf.out⟩
                · have o9b : (op == 9) = false := by simp [o9]
                  clear o15 o9
                  go_wp2_with fail
                  refine (awake_any _).mono ?_
                  rintro e wT ⟨rfl, hbT⟩
                  have Hf := hide (Hb10.out.trans (hbT.mono (by omega)))
                  clear hbT
                  go_wp2_with fail
                  go_ret
                  exact ⟨rfl, Hf.out⟩
            · subst hs
              simp only [show ((2 : Int) = 2) = True by simp, show ((2 : Int) = 1) = False by simp, if_true, if_false]
              go_wp2_with fail
              refine (kids_any op _).mono ?_
              rintro e wq ⟨rfl, rfl⟩
              rw [Hko.out]
              by_cases o15 : op = 15
              · have o15b : (op == 15) = true := by simp [o15]
                have hk3 : k = 3 := by
                  have h := Hko.out
                  rw [o15] at h
                  have h2 : kidsOf 15 = 3 := by decide
                  omega
                subst hk3
                obtain ⟨y0, y1, y2⟩ := ty_if (by rw [← o15]; exact HN.out)
                obtain ⟨bb, bo, rfl, hbb, hcc⟩ := ri_cells Hri10.out (by omega)
                have k0 := hcc 0 (by omega)
                rw [Nat.add_zero] at k0
                have k1 := hcc 1 (by omega)
                have k2 := hcc 2 (by omega)
                rw [y0] at k0
                rw [y1] at k1
                rw [y2] at k2
                clear o15 hcc y0 y1 y2
                go_wp2_with fail
                refine (awake_any _).mono ?_
                rintro e wT ⟨rfl, hbT⟩
                have Hf := hide (Hb10.out.trans (hbT.mono (by omega)))
                clear hbT
                go_wp2_with fail
                go_ret
                exact ⟨rfl, Hf.out⟩
              · have o15b : (op == 15) = false := by simp [o15]
                by_cases o9 : op = 9
                · have o9b : (op == 9) = true := by simp [o9]
                  have hk2 : k = 2 := by
                    have h := Hko.out
                    rw [o9] at h
                    have h2 : kidsOf 9 = 2 := by decide
                    omega
                  subst hk2
                  obtain ⟨y0, y1⟩ := ty_same (by rw [← o9]; exact HN.out)
                  exact absurd y1 (by decide)
                · have o9b : (op == 9) = false := by simp [o9]
                  clear o15 o9
                  go_wp2_with fail
                  refine (awake_any _).mono ?_
                  rintro e wT ⟨rfl, hbT⟩
                  have Hf := hide (Hb10.out.trans (hbT.mono (by omega)))
                  clear hbT
                  go_wp2_with fail
                  go_ret
                  exact ⟨rfl, Hf.out⟩
    · have hxb : (x != 0) = true := by simp [hx]
      have her := Her.out
      rcases her with h0 | ⟨h1, h34⟩
      · exact absurd h0 hx
      · subst h1
        rcases h34 with rfl | rfl
        · clear hx
          go_wp2_with fail
          refine (awake_any _).mono ?_
          rintro e wT ⟨rfl, hbT⟩
          have Hf := hide (Hb4.out.trans (hbT.mono (by omega)))
          clear hbT
          go_wp2_with fail
          go_ret
          exact ⟨rfl, Hf.out⟩
        · clear hx
          go_wp2_with fail
          refine (awake_any _).mono ?_
          rintro e wT ⟨rfl, hbT⟩
          have Hf := hide (Hb4.out.trans (hbT.mono (by omega)))
          clear hbT
          go_wp2_with fail
          go_ret
          exact ⟨rfl, Hf.out⟩
  · have hcase : decide (0 < Dom.heavyGo 0 lv + heavyE t) = true ∨ (decide (0 < Dom.heavyGo 0 lv + heavyE t) = false ∧ (Dom.mayL lv != 0) = true) ∨ (decide (0 < Dom.heavyGo 0 lv + heavyE t) = false ∧ (Dom.mayL lv != 0) = false ∧ (mayE t != 0) = true) := by
      by_cases q1 : 0 < Dom.heavyGo 0 lv + heavyE t
      · exact .inl (by simp [q1])
      · by_cases q2 : Dom.mayL lv = 0
        · exact .inr (.inr ⟨by rw [decide_eq_false_iff_not]; exact q1, by simp [q2], by simp; exact fun h => hgood ⟨q1, q2, h⟩⟩)
        · exact .inr (.inl ⟨by rw [decide_eq_false_iff_not]; exact q1, by simp [q2]⟩)
    clear hgood
    rcases hcase with c1 | ⟨c1, c2⟩ | ⟨c1, c2, c3⟩
    all_goals
      go_enter Try.func4, Try.ntmps4
      go_wp2_with fail
      generalize w.alloc (.cells #[.int .i64 op, .int .i64 n, .slice A len cap] 25) = W at *
      have hBW : B ≤ W.heap.size := by omega
      have C0 := cell_regrown Hbox.out.1
      have C1 := cell_regrown Hbox.out.2.1
      have C2 := cell_regrown Hbox.out.2.2
      refine wp_region_quiet_below (by kernel_rfl) (by kernel_rfl) ?_
      repeat (go_big_quiet_step (first | (go_at_call 7; exact q_vheavy hBW Ho (by assumption)) | (go_at_call 8; exact q_heavy hBW (by assumption)) | (go_at_call 14; exact q_rmayV hBW Ho (by assumption)) | (go_at_call 15; exact q_rmayE hBW (by assumption))))
      refine wpQuiet_nil ?_
      intro w3 hw3
      obtain ⟨p, hp⟩ := hw3
      have hb3 : Below W.heap.size W w3 := by rw [hp]; exact below_regrown W p.d p.os
      have hz3 := hb3.size
      have Hb3 := hide (Hbx.out.trans (hb3.mono (by omega)))
      clear hp hb3 C0 C1 C2 Hbx Hre Hrv Hbox hBW
      go_wp2_with fail
      refine (awake_any _).mono ?_
      rintro e wT ⟨rfl, hbT⟩
      have Hf := hide (Hb3.out.trans (hbT.mono (by omega)))
      clear hbT
      go_wp2_with fail
      go_ret
      exact ⟨rfl, Hf.out⟩
end Go.Proofs.Ytdjllpejonfpgaa
