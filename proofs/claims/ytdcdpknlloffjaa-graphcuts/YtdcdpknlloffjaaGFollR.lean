/- The walks of thinned, and of the reference's Only and Follow. -/
import Derived.Test.YtdcdpknlloffjaaGThin
import Derived.Test.YtdcdpknlloffjaaGSameN
import Derived.Deep.RegionHeld3
import Derived.Deep.RegionLaw
import Derived.Deep.CutRange
namespace Go.Proofs.Ytdcdpknlloffjaa.Gr
open Go.RowKit
set_option linter.unusedSimpArgs false
set_option linter.unusedVariables false


set_option maxRecDepth 20000 in
set_option maxHeartbeats 2000000 in
theorem rfoll_any (B : Nat) (OA NA : Option Addr) (on oc nn nc : Nat) (g : GT) (p : Nat → Int → Bool) (who : Int) (A : Option Addr) (n c : Nat) (l : List Int) (w : World) (hB : B ≤ w.heap.size) (hg : RG w B ⟨OA, on, oc⟩ ⟨NA, nn, nc⟩ g) (hr : RI w B ⟨A, n, c⟩ l) (hpd : ∀ v x, p v x = (!(g.own.getD v 0 == who) || (decide (v < l.length) && (l.getD v 0 == x)))) :
    Calls Try.prog 25 #[.agg #[.slice OA on oc, .slice NA nn nc], .int .i64 who, .slice A n c] w (GamePost w (thinG p g)) := by
  have hbx : Below w.heap.size w ((w.alloc (.cells #[.slice OA on oc, .slice NA nn nc] 25)).alloc (.cells #[.slice none 0 0, .slice none 0 0] 25)) := ((Below.refl _ _).alloc (Nat.le_refl _) _).alloc (by simp) _
  have Hg := hide (hg.below (hbx.mono hB))
  have hz0 : w.heap.size + 2 ≤ ((w.alloc (.cells #[.slice OA on oc, .slice NA nn nc] 25)).alloc (.cells #[.slice none 0 0, .slice none 0 0] 25)).heap.size := by simp
  have Hl1 := hide hg.own.len
  obtain ⟨bx1, bx2⟩ := two_box w OA NA none none on oc nn nc 0 0 0 0
  have Hbx1 := hide bx1
  have Hbx2 := hide bx2
  obtain ⟨i0, hi0, hq0, hq1, hq2⟩ := info_parts info3
  have Hi0 := hide hi0; have Hq0 := hide hq0; have Hq1 := hide hq1; have Hq2 := hide hq2
  clear hi0 hq0 hq1 hq2
  have hfz := two_froz w OA NA on oc nn nc
  have Hfz := hide hfz
  have Hbx := hide hbx
  have HC := hide hr
  have HP := hide hpd
  clear hg bx1 bx2 hfz hr hpd
  go_enter Try.func25, Try.ntmps25
  go_wp2_with fail
  generalize (w.alloc (.cells #[.slice OA on oc, .slice NA nn nc] 25)).alloc (.cells #[.slice none 0 0, .slice none 0 0] 25) = w1 at *
  refine (rmay_any B OA NA on oc nn nc g w1 (by omega) Hg.out).mono ?_
  rintro e w2 ⟨rfl, hb2⟩
  have hz2 := hb2.size
  have hbw2 := Hbx.out.trans (hb2.mono (by omega))
  have Hg2 := hide (Hg.out.below (hb2.mono (by omega)))
  obtain ⟨c0, c1⟩ := Hbx1.out.below hb2 (by omega)
  obtain ⟨r0, r1⟩ := Hbx2.out.below hb2 (by omega)
  have z0 := (hb2.frozen (p := ⟨w.heap.size + 1, 0, none⟩) (by show w.heap.size + 1 < _; omega)).trans (Hfz.out 0)
  have z1 := (hb2.frozen (p := ⟨w.heap.size + 1, 1, none⟩) (by show w.heap.size + 1 < _; omega)).trans (Hfz.out 1)
  simp only [SL.v] at c0 c1 r0 r1
  have HB2 := hide hb2
  clear hb2 Hg Hbx1 Hbx2 Hfz hbx
  by_cases hm : mayG g = 0
  · have hm' : (mayG g != 0) = false := by simp [hm]
    obtain ⟨m1, m2, m3⟩ := may_facts hm
    have hl1 := Hg2.out.own.len
    have hl2 := Hg2.out.nxt.len
    simp only at hl1 hl2
    obtain rfl : nn = on := by omega
    have hon : nn ≤ 3000 := by omega
    have Hm := hide hm
    have HL1 : Hid (g.own.length = nn) := hide hl1
    have HL2 : Hid (g.nxt.length = nn) := hide hl2
    have Hd : Hid (thinG p g = ⟨g.own, TL p g.nxt nn nn 0⟩) := hide (by unfold thinG; rw [if_pos hm, TL_done, hl1])
    clear hm m1 m2 m3 hl1 hl2
    have hmk := make_rows nn (by omega)
    have Hmk := hide hmk
    have Hown := hide Hg2.out.own
    have hzw : w.heap.size < w2.heap.size := by omega
    have Hbw0 := hide (Below.refl w2.heap.size w2)
    go_upto_region 3 with fail
    go_cut [7] from 16 to 23 (fun s5 wx => ∃ (bo bn c : Nat) (O : Option Addr), s5 = .pointer (some ⟨bo, 0, none⟩) ∧ Hid (Made wx w2.heap.size nn bo bn O c g.own) ∧ Hid (Below w2.heap.size w2 wx) ∧ w2.heap.size ≤ bo ∧ w2.heap.size ≤ bn)
    case first =>
      go_region_held3 (fun w' => w'.cell? ⟨w.heap.size, 0, none⟩ = some (.slice OA nn oc) ∧ w'.cell? ⟨w.heap.size, 1, none⟩ = some (.slice NA nn nc))
        (first | go_keep | exact keepS (hide (by repeat (first | exact Hid.out (by assumption) | exact Below.refl _ _ | refine Below.drew ?_ | refine Below.setCell ?_ (by first | exact Nat.le_refl _ | (show _ ≤ _; simp; done) | (show _ ≤ _; omega)) _ | refine Below.alloc ?_ (by first | omega | (simp; done) | (simp; omega)) _))) (by omega) c0 c1)
        ((refine step_append_new rfl (.const (.slice none 0 0)) (.tmp 17) (by rfl) (by rfl) (by rfl) Hown.out (by omega) (by omega) (by repeat (first | exact Below.refl _ _ | refine Below.drew ?_ | refine Below.setCell ?_ (by first | exact Nat.le_refl _ | (show _ ≤ _; simp; done) | (show _ ≤ _; omega)) _ | refine Below.alloc ?_ (by first | omega | (simp; done) | (simp; omega)) _)) ?_; intro O c w5 hro hfar hb5 hs5; have hs5z := hs5.out.size; have hb5z := hb5.out.size; (try simp at hb5z); (try (have hzl : w2.heap.size < w5.heap.size := (by omega))); obtain ⟨k1, k2⟩ := bcell hb5.out; have hzw5 : w.heap.size < w5.heap.size := (by omega); have c0' := (hs5.out.cell (p := ⟨w.heap.size, 0, none⟩) hzw).trans c0; have c1' := (hs5.out.cell (p := ⟨w.heap.size, 1, none⟩) hzw).trans c1))
      all_goals (go_wp2_with fail)
      all_goals go_meet
      all_goals first
        | exact ⟨_, _, _, _, rfl, hide (made1 (w2 := w2) hro hfar), hide (by repeat (first | exact Hid.out (by assumption) | exact Below.refl _ _ | refine Below.drew ?_ | refine Below.setCell ?_ (by first | exact Nat.le_refl _ | (show _ ≤ _; simp; done) | (show _ ≤ _; omega)) _ | refine Below.alloc ?_ (by first | omega | (simp; done) | (simp; omega)) _)), by omega, by omega⟩
        | exact ⟨_, _, _, _, rfl, hide (made2 (w2 := w2) hro hfar), hide (by repeat (first | exact Hid.out (by assumption) | exact Below.refl _ _ | refine Below.drew ?_ | refine Below.setCell ?_ (by first | exact Nat.le_refl _ | (show _ ≤ _; simp; done) | (show _ ≤ _; omega)) _ | refine Below.alloc ?_ (by first | omega | (simp; done) | (simp; omega)) _)), by omega, by omega⟩
        | exact ⟨_, _, _, _, rfl, hide (made3 (w2 := w2) hro hfar hb5), hide (by repeat (first | exact Hid.out (by assumption) | exact Below.refl _ _ | refine Below.drew ?_ | refine Below.setCell ?_ (by first | exact Nat.le_refl _ | (show _ ≤ _; simp; done) | (show _ ≤ _; omega)) _ | refine Below.alloc ?_ (by first | omega | (simp; done) | (simp; omega)) _)), by omega, by omega⟩
        | exact ⟨_, _, _, _, rfl, hide (made4 (w2 := w2) hro hfar hb5), hide (by repeat (first | exact Hid.out (by assumption) | exact Below.refl _ _ | refine Below.drew ?_ | refine Below.setCell ?_ (by first | exact Nat.le_refl _ | (show _ ≤ _; simp; done) | (show _ ≤ _; omega)) _ | refine Below.alloc ?_ (by first | omega | (simp; done) | (simp; omega)) _)), by omega, by omega⟩
        | exact ⟨_, _, _, _, rfl, hide (made5 (w2 := w2) hro hfar hb5), hide (by repeat (first | exact Hid.out (by assumption) | exact Below.refl _ _ | refine Below.drew ?_ | refine Below.setCell ?_ (by first | exact Nat.le_refl _ | (show _ ≤ _; simp; done) | (show _ ≤ _; omega)) _ | refine Below.alloc ?_ (by first | omega | (simp; done) | (simp; omega)) _)), by omega, by omega⟩
        | exact ⟨_, _, _, _, rfl, hide (made6 (w2 := w2) hro hfar hb5), hide (by repeat (first | exact Hid.out (by assumption) | exact Below.refl _ _ | refine Below.drew ?_ | refine Below.setCell ?_ (by first | exact Nat.le_refl _ | (show _ ≤ _; simp; done) | (show _ ≤ _; omega)) _ | refine Below.alloc ?_ (by first | omega | (simp; done) | (simp; omega)) _)), by omega, by omega⟩
    case rest =>
      obtain ⟨wM, rfl⟩ : ∃ wM, wM = wc := ⟨_, rfl⟩
      obtain ⟨bo, bn, cO, O, rfl, HM, HB, hbo, hbn⟩ := hcut
      have hzc := HB.out.size
      have c1c := (HB.out.cell (p := ⟨w.heap.size, 1, none⟩) hzw).trans c1
      have hltn := HM.out.row.lt
      have hlto := HM.out.lto
      have hne := HM.out.ne
      have Hr0 := hide ((HB.out.cell (p := ⟨w.heap.size + 1, 0, none⟩) (by show w.heap.size + 1 < _; omega)).trans r0)
      have Hr1 := hide ((HB.out.cell (p := ⟨w.heap.size + 1, 1, none⟩) (by show w.heap.size + 1 < _; omega)).trans r1)
      have Hz0 := hide ((HB.out.frozen (p := ⟨w.heap.size + 1, 0, none⟩) (by show w.heap.size + 1 < _; omega)).trans z0)
      have Hz1 := hide ((HB.out.frozen (p := ⟨w.heap.size + 1, 1, none⟩) (by show w.heap.size + 1 < _; omega)).trans z1)
      have C1 := hide c1
      have C0 := hide c0
      clear r0 r1 z0 z1 c0 c1
      go_wp2_with fail
      clear c1c
      go_loopw [27] (fun i wr => ∃ (k : Nat) (f : Nat → Value), k ≤ nn ∧ i = .int .i64 k ∧ Nest wr wM.heap.size bn nn f (TL p g.nxt nn k 0) ∧ Onl bn wM wr) (fun i _ => nn - (intOf i).toNat)
      case atStart => exact ⟨0, _, Nat.zero_le _, rfl, by rw [TL_zero]; exact nest_new HM.out.row, Onl.refl _ _⟩
      case round =>
        obtain ⟨k, f, hk, rfl, hnest, hon2⟩ := hrel
        have hb := HB.out.trans (hon2.below hbn (by omega))
        have hzr := hb.size
        have Hne := hide hnest
        have Hon := hide hon2
        clear hnest hon2
        by_cases hlt : k < nn
        · have hlt' : (k : Int) < (nn : Int) := by omega
          obtain ⟨b2, off2, r, A2, n2, k2, rfl, hbB2, hr, hc2w, hri⟩ := Hg2.out.nxt.at_ hlt
          have hc2 := (hb.cell (p := ⟨b2, off2 + k, none⟩) (by show b2 < _; omega)).trans hc2w
          have Hrow := hide (may_row Hm.out hr)
          have Hrl := hide hri.len
          have hn2 : n2 ≤ 3000 := by have h1 := Hrow.out.2.1; have h2 := hri.len; simp only at h2; omega
          have Hri := hide hri
          have Hr := hide hr
          clear hr hri hc2w
          go_wp2_with fail
          clear hc2
          go_loopw [34] (fun jj wr => ∃ (j : Nat) (f2 : Nat → Value), j ≤ n2 ∧ jj = .int .i64 j ∧ Nest wr wM.heap.size bn nn f2 (TL p g.nxt nn k j) ∧ Onl bn wM wr) (fun jj _ => n2 - (intOf jj).toNat)
          case atStart => exact ⟨0, f, Nat.zero_le _, rfl, Hne.out, Hon.out⟩
          case round =>
            clear Hne Hon hb hzr
            obtain ⟨j, f2, hj, rfl, hnest, hon2⟩ := hrel
            have hb := HB.out.trans (hon2.below hbn (by omega))
            have hzr := hb.size
            have Hne := hide hnest
            have Hon := hide hon2
            have hzcr := hon2.size
            clear hnest hon2
            by_cases hlt2 : j < n2
            · have hlt2' : (j : Int) < (n2 : Int) := by omega
              obtain ⟨b3, off3, x, rfl, hbB3, hx, hc3w⟩ := Hri.out.at_ hlt2
              have hc3 := (hb.cell (p := ⟨b3, off3 + j, none⟩) (by show b3 < _; omega)).trans hc3w
              obtain ⟨hx0, hx1⟩ := Hrow.out.2.2 x (List.mem_of_getElem? hx)
              obtain ⟨q, rfl⟩ := Int.eq_ofNat_of_zero_le hx0
              have hqn : q < nn := by have := HL1.out; omega
              have hqn' : (q : Int) < (nn : Int) := by omega
              have Hx := hide hx
              clear hx hx0 hx1 hc3w
              obtain ⟨b4, off4, x0, rfl, hbB4, hx0, hc4w⟩ := Hg2.out.own.at_ hlt
              have hc4 := (hb.cell (p := ⟨b4, off4 + k, none⟩) (by show b4 < _; omega)).trans hc4w
              have e0 : wr.cell? ⟨w.heap.size, 0, none⟩ = some (.slice (some ⟨b4, off4, none⟩) nn oc) := (hb.cell (p := ⟨w.heap.size, 0, none⟩) hzw).trans C0.out
              have Hpd : Hid (p k (q : Int) = (!(x0 == who) || (decide (k < l.length) && (l.getD k 0 == (q : Int))))) := hide (by rw [HP.out k (q : Int), getD_at hx0])
              clear hx0 hc4w
              go_upto_region 10 with fail
              go_cut [58] from 35 to 71 (fun s58 wx => s58 = .bool (p k (q : Int)) ∧ wx = wr)
              case first =>
                cases hxw : x0 != who
                · have hx1 : (x0 == who) = true := by simpa [bne] using hxw
                  by_cases hkn : k < n
                  · have hkn' : (k : Int) < (n : Int) := by omega
                    obtain ⟨b5, off5, y, rfl, hbB5, hy, hc5w⟩ := (HC.out.below (hbw2.trans (hb.mono (by omega)) |>.mono hB)).at_ hkn
                    have hd : decide (k < l.length) = true := by simpa using (List.getElem?_eq_some_iff.1 hy).1
                    have Hf : Hid (p k (q : Int) = (y == (q : Int))) := hide (by rw [Hpd.out, hx1, hd, getD_at hy]; rfl)
                    clear hy hd hx1
                    cases hyq : y == (q : Int)
                    · have Hf2 : Hid (p k (q : Int) = false) := hide (by rw [Hf.out, hyq])
                      go_wp2_with fail
                      go_meet
                      exact ⟨by rw [Hf2.out], rfl⟩
                    · have Hf2 : Hid (p k (q : Int) = true) := hide (by rw [Hf.out, hyq])
                      go_wp2_with fail
                      go_meet
                      exact ⟨by rw [Hf2.out], rfl⟩
                  · have hkn' : ¬ (k : Int) < (n : Int) := by omega
                    have Hf : Hid (p k (q : Int) = false) := hide (by rw [Hpd.out, hx1, decide_eq_false (by have h := HC.out.len; simp only at h; omega)]; rfl)
                    clear hx1
                    go_wp2_with fail
                    go_meet
                    exact ⟨by rw [Hf.out], rfl⟩
                · have hx1 : (x0 == who) = false := by simpa [bne] using hxw
                  have Hf : Hid (p k (q : Int) = true) := hide (by rw [Hpd.out, hx1]; rfl)
                  clear hx1
                  go_wp2_with fail
                  go_meet
                  exact ⟨by rw [Hf.out], rfl⟩
              clear hc4 e0
              obtain ⟨rfl, hwr⟩ := hcut
              have hb6 : Below wr.heap.size wr wc := by rw [hwr]; exact Below.refl _ _
              obtain ⟨w6, rfl⟩ : ∃ w6, w6 = wc := ⟨_, rfl⟩
              clear hwr
              have hz6 := hb6.size
              have Hne6 := hide (Hne.out.below hb6)
              have Hon6 := hide (Hon.out.of_below hb6 (by omega))
              clear hb6 hc3 Hne Hon
              cases hp : p k (q : Int)
              · have Hke : Hid (TL p g.nxt nn k (j + 1) = TL p g.nxt nn k j) := hide (TL_keep Hr.out Hx.out hp)
                clear hp
                go_wp2_with fail
                go_roundw
                case rel => exact ⟨j + 1, f2, by omega, by go_num, by rw [Hke.out]; exact Hne6.out, Hon6.out⟩
                case measure => simp [intOf]; omega
              · obtain ⟨l, hl⟩ : ∃ l, l = TAt p g.nxt k j k := ⟨_, rfl⟩
                have Hpu : Hid ((TL p g.nxt nn k j).set k (l ++ [(q : Int)]) = TL p g.nxt nn k (j + 1)) := hide (by rw [hl, TL_row Hr.out]; exact TL_put Hr.out Hx.out hp hlt)
                have Hl : Hid ((TL p g.nxt nn k j)[k]? = some l) := hide (by rw [hl]; exact TL_get hlt)
                have hlen : l.length ≤ 3000 := by rw [hl]; exact TL_len (fun r hr => by obtain ⟨i, hi⟩ := List.getElem?_of_mem hr; exact (may_row Hm.out hi).2.1)
                clear hl hp
                have hown := Hne6.out.own k l Hl.out
                obtain ⟨O2, cc, hv⟩ := own_sl hown
                have hcb : w6.cell? ⟨bo, 1, none⟩ = some (.slice (some ⟨bn, 0, none⟩) nn nn) := (Hon6.out.cell (p := ⟨bo, 1, none⟩) hlto hne).trans HM.out.c1
                have hck : w6.cell? ⟨bn, k, none⟩ = some (.slice O2 l.length cc) := by rw [Hne6.out.row.cell hlt, hv]
                rw [hv] at hown
                have Hv := hide hv
                generalize hlm : l.length = m at *
                have Hlm := hide hlm
                have HownA : Hid ((w6.alloc (.cells #[.int .i64 (q : Int)] 3)).drew.ownsRow wM.heap.size 3 1 (.slice O2 m cc) m (ints l)) := hide (hown.alloc _)
                have HnwA : Hid ((w6.alloc (.cells #[.int .i64 (q : Int)] 3)).drew.heap[w6.heap.size]? = some (.cells #[.int .i64 (q : Int)] 3 (0, 0))) := hide (heap_alloc_new w6 _)
                have HneA := hide ((Hne6.out.alloc (.cells #[.int .i64 (q : Int)] 3)).drew)
                have hlo6 : bo < w6.heap.size := by omega
                have hln6 : bn < w6.heap.size := by omega
                have HonA : Hid (Onl bn wM (w6.alloc (.cells #[.int .i64 (q : Int)] 3)).drew) := hide (Hon6.out.alloc _)
                clear hown hv hlm
                go_wp2_with fail
                go_region_law ((refine step_append_lies _ (by rfl) _ _ _ (by rfl) wM.heap.size 3 i0 _ 1 8 Try.underlying22 Hi0.out Hq0.out Hq1.out Hq2.out rfl (by omega) (.slice O2 m cc) m (ints l) (by rfl) HownA.out ⟨w6.heap.size, 0, none⟩ 1 1 [.int .i64 (q : Int)] (by rfl) (by rfl) (World.news_of_block (cs := #[.int .i64 (q : Int)]) (t := 3) (fr := (0, 0)) HnwA.out) (by simp [Value.oneCell']) (by omega) (by unfold maxLen; omega) (by omega) (by simp; omega) (w6.heap.size + 1) (by simp) ?_; intro gg cap w7 hown7 hgrow hat hlt7; have hz7 : w6.heap.size + 1 ≤ w7.heap.size := (by have := hgrow.size; simp at this; exact this); have d7 := (thin_cell (o := bo) (i := 1) HownA hgrow hlto (by simp; omega)).trans ((World.cell?_alloc_lt _ _ _ (by exact hlo6)).trans hcb); have hr7 := thin_row HneA hgrow hlt Hv; obtain ⟨u7, c7⟩ : ∃ u, w7.cell? ⟨bn, k, none⟩ = some u := ⟨_, hr7.out.cell hlt⟩; have z7 := hr7.out.frozen k))
                all_goals
                  have Hput := hide (HneA.out.put (v' := .slice (some ⟨gg, 0, none⟩) (m + 1) cap) (H := w6.heap.size + 1) hlt Hl.out (by rw [Hlm.out]; exact hown7) (by rw [Hv.out]; exact hgrow) rfl (by rw [Hv.out]; exact hat) (by simp))
                  have Hon7 := hide ((HonA.out.grown hgrow (fun z hz => (HownA.out.lt z hz).1)).set k (.slice (some ⟨gg, 0, none⟩) (m + 1) cap))
                  rw [Hpu.out] at Hput
                  go_wp2_with fail
                  go_roundw
                  case rel => exact ⟨j + 1, _, by omega, by go_num, Hput.out, Hon7.out⟩
                  case measure => simp [intOf]; omega
            · have hlt2' : ¬ (j : Int) < (n2 : Int) := by omega
              have Hke : Hid (TL p g.nxt nn k j = TL p g.nxt nn (k + 1) 0) := hide (TL_next Hr.out (by rw [Hrl.out]; exact Nat.le_of_not_lt hlt2))
              go_wp2_with fail
              go_roundw
              case rel => exact ⟨k + 1, f2, by omega, by go_num, by rw [← Hke.out]; exact Hne.out, Hon.out⟩
              case measure => simp [intOf]; omega
        · have hlt' : ¬ (k : Int) < (nn : Int) := by omega
          obtain rfl : k = nn := by omega
          have hcb0 : wr.cell? ⟨bo, 0, none⟩ = some (.slice O k cO) := (Hon.out.cell (p := ⟨bo, 0, none⟩) hlto hne).trans HM.out.c0
          have hcb1 : wr.cell? ⟨bo, 1, none⟩ = some (.slice (some ⟨bn, 0, none⟩) k k) := (Hon.out.cell (p := ⟨bo, 1, none⟩) hlto hne).trans HM.out.c1
          have r0 := (Hon.out.cell (p := ⟨w.heap.size + 1, 0, none⟩) (by show w.heap.size + 1 < _; omega) (by show w.heap.size + 1 ≠ bn; omega)).trans Hr0.out
          have r1 := (Hon.out.cell (p := ⟨w.heap.size + 1, 1, none⟩) (by show w.heap.size + 1 < _; omega) (by show w.heap.size + 1 ≠ bn; omega)).trans Hr1.out
          have hbz := (HB.out.trans (Hon.out.below hbn (by omega)))
          have z0 : wr.frozen? ⟨w.heap.size + 1, 0, none⟩ = false := (Onl.froz Hon.out (by show w.heap.size + 1 < _; omega) (by show w.heap.size + 1 ≠ bn; omega)).trans Hz0.out
          have z1 : wr.frozen? ⟨w.heap.size + 1, 1, none⟩ = false := (Onl.froz Hon.out (by show w.heap.size + 1 < _; omega) (by show w.heap.size + 1 ≠ bn; omega)).trans Hz1.out
          have Hend := hide (thin_end (rs := w.heap.size + 1) (a0 := .slice O k cO) (a1 := .slice (some ⟨bn, 0, none⟩) k k) HM Hne Hon (by omega) hbn (by omega) (by unfold maxLen; omega))
          obtain ⟨s0, s1⟩ := cells2 (a0 := .slice O k cO) (a1 := .slice (some ⟨bn, 0, none⟩) k k) r0 r1
          have Hs0 := hide s0
          have Hs1 := hide s1
          have Hbe := hide (((hbw2.trans (hbz.mono (by omega))).setCell (p := ⟨w.heap.size + 1, 0, none⟩) (by show w.heap.size ≤ w.heap.size + 1; omega) (.slice O k cO)).setCell (p := ⟨w.heap.size + 1, 1, none⟩) (by show w.heap.size ≤ w.heap.size + 1; omega) (.slice (some ⟨bn, 0, none⟩) k k))
          clear s0 s1 hb hbz
          go_wp2_with fail
          have s0 := Hs0.out
          have s1 := Hs1.out
          refine bodyPost_ret (v := .agg #[.slice O k cO, .slice (some ⟨bn, 0, none⟩) k k]) (by simp [results, Try.results25, go_sem, s0, s1]) rfl ?_
          exact ⟨⟨O, k, cO⟩, ⟨some ⟨bn, 0, none⟩, k, k⟩, rfl, by rw [Hd.out]; exact Hend.out.on (by omega) (Nat.le_refl _) (fun _ _ _ => rfl), Hbe.out⟩
  · have hm' : (mayG g != 0) = true := by simp [hm]
    have Hd : Hid (thinG p g = ⟨[], []⟩) := hide (by unfold thinG; rw [if_neg hm])
    clear hm
    obtain ⟨s0, s1⟩ := cells2 (a0 := .slice none 0 0) (a1 := .slice none 0 0) r0 r1
    have Hs0 := hide s0
    have Hs1 := hide s1
    have Hbe := hide ((hbw2.setCell (p := ⟨w.heap.size + 1, 0, none⟩) (by show w.heap.size ≤ w.heap.size + 1; omega) (.slice none 0 0)).setCell (p := ⟨w.heap.size + 1, 1, none⟩) (by show w.heap.size ≤ w.heap.size + 1; omega) (.slice none 0 0))
    clear s0 s1
    go_wp2_with fail
    have s0 := Hs0.out
    have s1 := Hs1.out
    refine bodyPost_ret (v := .agg #[.slice none 0 0, .slice none 0 0]) (by simp [results, Try.results25, go_sem, s0, s1]) rfl ?_
    exact ⟨⟨none, 0, 0⟩, ⟨none, 0, 0⟩, rfl, by rw [Hd.out]; exact newG_nil _ _, Hbe.out⟩
end Go.Proofs.Ytdcdpknlloffjaa.Gr
