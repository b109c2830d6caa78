/- The walk of the reference's Reach. -/
import Derived.Test.YtdcdpknlloffjaaGReach
namespace Go.Proofs.Ytdcdpknlloffjaa.Gr
open Go.RowKit
set_option linter.unusedSimpArgs false
set_option linter.unusedVariables false

theorem upd_id {F : Nat → Bool} {q : Nat} (h : F q = true) : upd F q = F := by
  funext i
  unfold upd
  split
  · rename_i e; rw [e, h]
  · rfl
/- within one round: what has been looked at, if nothing has turned -/
structure VInv (nxt : List (List Int)) (n : Nat) (F0 F : Nat → Bool) (more : Bool) (k : Nat) : Prop where
  le : cnt n F0 ≤ cnt n F
  no : more = false → ∀ (u : Nat) (r : List Int), u < k → F u = true → nxt[u]? = some r → ∀ v : Nat, (v : Int) ∈ r → F v = true
  yes : more = true → cnt n F0 < cnt n F
structure WInv (nxt : List (List Int)) (n : Nat) (F0 F : Nat → Bool) (more : Bool) (k : Nat) (r : List Int) (j : Nat) : Prop where
  v : VInv nxt n F0 F more k
  no : more = false → ∀ v : Nat, (v : Int) ∈ r.take j → F v = true
section
variable {nxt : List (List Int)} {n k j q : Nat} {F0 F : Nat → Bool} {more : Bool} {r : List Int}
theorem VInv.skip (h : VInv nxt n F0 F more k) (hf : F k = false) : VInv nxt n F0 F more (k + 1) :=
  ⟨h.le, fun hm u r hu hF hr v hv => by
    by_cases e : u = k
    · subst e; rw [hf] at hF; cases hF
    · exact h.no hm u r (by omega) hF hr v hv, h.yes⟩
theorem WInv.done (h : WInv nxt n F0 F more k r j) (hr : nxt[k]? = some r) (hj : r.length ≤ j) : VInv nxt n F0 F more (k + 1) :=
  ⟨h.v.le, fun hm u r2 hu hF hr2 v hv => by
    by_cases e : u = k
    · subst e
      rw [hr] at hr2; injection hr2 with hr2; subst hr2
      exact h.no hm v (by rw [List.take_of_length_le hj]; exact hv)
    · exact h.v.no hm u r2 (by omega) hF hr2 v hv, h.v.yes⟩
theorem WInv.keep (h : WInv nxt n F0 F more k r j) (hx : r[j]? = some (q : Int)) (hf : F q = true) : WInv nxt n F0 F more k r (j + 1) :=
  ⟨h.v, fun hm v hv => by
    obtain ⟨hkl, e⟩ := List.getElem?_eq_some_iff.1 hx
    rw [List.take_succ_eq_append_getElem hkl, e, List.mem_append] at hv
    rcases hv with hv | hv
    · exact h.no hm v hv
    · have : v = q := by simp at hv; omega
      subst this; exact hf⟩
theorem WInv.put (h : WInv nxt n F0 F more k r j) (hq : q < n) (hf : F q = false) : WInv nxt n F0 (upd F q) true k r (j + 1) :=
  ⟨⟨by rw [cnt_upd n hq hf]; have := h.v.le; omega, (fun hm => by cases hm), fun _ => by rw [cnt_upd n hq hf]; have := h.v.le; omega⟩, (fun hm => by cases hm)⟩
theorem VInv.start : VInv nxt n F F false 0 := ⟨Nat.le_refl _, (fun _ u r hu => by omega), (fun hm => by cases hm)⟩
theorem WInv.start (h : VInv nxt n F0 F more k) : WInv nxt n F0 F more k r 0 := ⟨h, fun _ v hv => by simp at hv⟩
theorem VInv.closed (h : VInv nxt n F0 F false n) (hl : nxt.length ≤ n) : Closed nxt F := fun u r hF hr v hv => h.no rfl u r (by have := (List.getElem?_eq_some_iff.1 hr).1; omega) hF hr v hv
end
theorem full_closed {g : GT} {F : Nat → Bool} (hm : mayG g = 0) (h : g.own.length ≤ cnt g.own.length F) : Closed g.nxt F := fun u r _ hr v hv => cnt_full _ h v (by have := (may_row hm hr).2.2 _ hv; omega)
theorem row_start (l : List Bool) (n : Nat) {w : World} {b : Nat} {f : Nat → Value} (h : w.rowIs b 4 n f) (hf : ∀ i, i < n → f i = .bool (l.getD i false)) : w.rowIs b 4 n (boolV fun i => decide (i < n) && l.getD i false) :=
  h.congr (fun i hi => by rw [hf i hi]; simp [boolV, hi])
def RowOwn (w : World) (l : List Bool) (e : Ending) (w' : World) : Prop := ∃ b, e = .returned (.slice (some ⟨b, 0, none⟩) l.length l.length) ∧ w.heap.size ≤ b ∧ w'.rowIs b 4 l.length (boolV fun i => l.getD i false) ∧ Below w.heap.size w w'
theorem map_mark {n : Nat} {f : Nat → Bool} {w : World} {b : Nat} (h : w.rowIs b 4 n (markV f n)) : w.rowIs b 4 ((List.range n).map f).length (boolV fun i => ((List.range n).map f).getD i false) := by
  have hl : ((List.range n).map f).length = n := by simp
  rw [hl]
  exact h.congr (fun i hi => by simp [markV, boolV, hi, List.getD])
set_option maxHeartbeats 1000000 in
theorem rowOwn_any (B : Nat) (OA NA : Option Addr) (on oc nn nc : Nat) (g : GT) (A : Option Addr) (n c : Nat) (l : List Bool) (w : World) (hB : B ≤ w.heap.size) (hg : RG w B ⟨OA, on, oc⟩ ⟨NA, nn, nc⟩ g) (hr : RB w B ⟨A, n, c⟩ l) (hm : g.own.length ≤ 3000) :
    Calls Try.prog 34 #[.agg #[.slice OA on oc, .slice NA nn nc], .slice A n c] w (RowOwn w (rowL g.own.length l)) := by
  have hl1 := hg.own.len
  simp only at hl1
  rw [hl1] at hm ⊢
  clear hl1 hg
  have hbx : Below w.heap.size w ((w.alloc (.cells #[.slice OA on oc, .slice NA nn nc] 25)).alloc (.cells (madeCells #[.bool false] on) 4)) := ((Below.refl _ _).alloc (Nat.le_refl _) _).alloc (by simp) _
  have hz0 : (w.alloc (.cells #[.slice OA on oc, .slice NA nn nc] 25)).heap.size = w.heap.size + 1 := by simp
  have hrow := mark_zero (f := fun v => l.getD v false) (World.rowIs_made (w.alloc (.cells #[.slice OA on oc, .slice NA nn nc] 25)) (.bool false) on 4)
  rw [hz0] at hrow
  have Hrow := hide hrow
  have Hr := hide hr
  have hmk := make_bools on (by omega)
  have hz2 : w.heap.size + 2 = ((w.alloc (.cells #[.slice OA on oc, .slice NA nn nc] 25)).alloc (.cells (madeCells #[.bool false] on) 4)).heap.size := by simp
  clear hrow hr hz0
  go_enter Try.func34, Try.ntmps34
  go_wp2_with fail
  clear hmk
  generalize (w.alloc (.cells #[.slice OA on oc, .slice NA nn nc] 25)).alloc (.cells (madeCells #[.bool false] on) 4) = w2 at *
  have hz3 : w.heap.size + 2 ≤ w2.heap.size := by omega
  clear hz2
  go_loopw [13] (fun i wr => ∃ k : Nat, k ≤ on ∧ i = .int .i64 k ∧ wr.rowIs (w.heap.size + 1) 4 on (markV (fun v => l.getD v false) k) ∧ Below w.heap.size w wr) (fun i _ => on - (intOf i).toNat)
  case atStart => exact ⟨0, Nat.zero_le _, rfl, Hrow.out, hbx⟩
  case round =>
    obtain ⟨k, hk, rfl, hrw, hb⟩ := hrel
    have Hrw := hide hrw
    by_cases hlt : k < on
    · have hlt' : (k : Int) < (on : Int) := by omega
      obtain ⟨u0, hu0⟩ : ∃ u, wr.cell? ⟨w.heap.size + 1, k, none⟩ = some u := ⟨_, hrw.cell hlt⟩
      have hfz := hrw.frozen k
      have Hst := hide (mark_step hrw (v := hasB l k) (by simp [hasB]))
      have Hb2 := hide (hb.setCell (p := ⟨w.heap.size + 1, k, none⟩) (by show w.heap.size ≤ w.heap.size + 1; omega) (.bool (hasB l k)))
      clear hrw
      go_wp2_with fail
      refine (has_any B A n c l k wr (Hr.out.below (hb.mono hB))).mono ?_
      rintro e w3 ⟨rfl, rfl⟩
      go_wp2_with fail
      go_roundw
      case rel => exact ⟨k + 1, by omega, by go_num, Hst.out, Hb2.out⟩
      case measure => simp [intOf]; omega
    · have hlt' : ¬ (k : Int) < (on : Int) := by omega
      obtain rfl : k = on := by omega
      clear hrw
      go_wp2_with fail
      go_ret
      have hL : (rowL k l).length = k := by simp [rowL]
      exact ⟨_, by rw [hL]; rfl, by omega, map_mark Hrw.out, hb⟩

set_option maxRecDepth 20000 in
set_option maxHeartbeats 1000000 in
theorem rreach_any (B : Nat) (OA NA : Option Addr) (on oc nn nc : Nat) (g : GT) (A : Option Addr) (n c : Nat) (l : List Bool) (w : World) (hB : B ≤ w.heap.size) (hg : RG w B ⟨OA, on, oc⟩ ⟨NA, nn, nc⟩ g) (hr : RB w B ⟨A, n, c⟩ l) :
    Calls Try.prog 19 #[.agg #[.slice OA on oc, .slice NA nn nc], .slice A n c] w (RowPost w (reachL g l)) := by
  have hbx : Below w.heap.size w (w.alloc (.cells #[.slice OA on oc, .slice NA nn nc] 25)) := (Below.refl _ _).alloc (Nat.le_refl _) _
  have Hg := hide (hg.below (hbx.mono hB))
  have Hr := hide (hr.below (hbx.mono hB))
  have hz0 : w.heap.size + 1 ≤ (w.alloc (.cells #[.slice OA on oc, .slice NA nn nc] 25)).heap.size := by simp
  have Hl1 := hide hg.own.len
  have Hbox := hide (box_new w OA NA on oc nn nc 25)
  clear hg hr
  go_enter Try.func19, Try.ntmps19
  go_wp2_with fail
  generalize w.alloc (.cells #[.slice OA on oc, .slice NA nn nc] 25) = w1 at *
  refine (rmay_any B OA NA on oc nn nc g w1 (by omega) Hg.out).mono ?_
  rintro e w2 ⟨rfl, hb2⟩
  have hz2 := hb2.size
  have hbw2 := hbx.trans (hb2.mono (by omega))
  have Hg2 := hide (Hg.out.below (hb2.mono (by omega)))
  have Hr2 := hide (Hr.out.below (hb2.mono (by omega)))
  obtain ⟨c0, c1⟩ := Hbox.out.below hb2 (by omega)
  simp only [SL.v] at c0 c1
  clear hb2 Hg Hr Hbox
  by_cases hm : mayG g = 0
  · have hm' : (mayG g != 0) = false := by simp [hm]
    obtain ⟨m1, m2, m3⟩ := may_facts hm
    have hl1 := Hg2.out.own.len
    have hl2 := Hg2.out.nxt.len
    simp only at hl1 hl2
    obtain rfl : nn = on := by omega
    have hon : nn ≤ 3000 := by omega
    have Hm := hide hm
    have HL1 : Hid (g.own.length = nn) := hide hl1
    have HL2 : Hid (g.nxt.length = nn) := hide hl2
    have Hd : Hid (reachL g l = (List.range nn).map (reachAt g fun v => l.getD v false)) := hide (by unfold reachL; rw [if_pos hm, Hl1.out])
    have HRL : Hid (rowL g.own.length l = rowL nn l) := hide (by rw [hl1])
    have HRn : Hid ((rowL nn l).length = nn) := hide (by simp [rowL])
    clear hm m1 m2 m3 hl1 hl2
    go_wp2_with fail
    refine (rowOwn_any B OA NA nn oc nn nc g A n c l w2 (by omega) Hg2.out Hr2.out (by rw [HL1.out]; exact hon)).mono ?_
    rintro e w4 ⟨bb, rfl, hbb, hrow4, hb4⟩
    rw [HRL.out] at hrow4
    rw [HRL.out, HRn.out]
    rw [HRn.out] at hrow4
    have hrow5 := row_start l nn hrow4 (fun i hi => by simp [boolV, rowL, List.getD, hi])
    have Hrow5 := hide hrow5
    have Hb4 := hide hb4
    have hz4 := hb4.size
    have hzb := hrow5.lt
    have Hinv0 := hide (inv_start g.nxt l nn)
    clear hrow4 hrow5 hb4
    generalize hF0 : (fun i => decide (i < nn) && l.getD i false) = F0 at *
    clear hF0
    go_wp2_with fail
    go_loopw [18] (fun ii wr => ∃ (F : Nat → Bool) (i : Nat), ii = .int .i64 i ∧ i ≤ nn ∧ Hid (i ≤ cnt nn F) ∧ Hid (RInv g.nxt (fun v => l.getD v false) nn F) ∧ wr.rowIs bb 4 nn (boolV F) ∧ Below w2.heap.size w2 wr) (fun ii _ => nn - (intOf ii).toNat)
    case atStart => exact ⟨F0, 0, rfl, Nat.zero_le _, hide (Nat.zero_le _), Hinv0, Hrow5.out, Hb4.out⟩
    case round =>
      obtain ⟨F, i, rfl, hin, Hcnt, Hinv, hrow, hb⟩ := hrel
      have hzr := hb.size
      have Hrow := hide hrow
      by_cases hlt : i < nn
      · have hlt' : (i : Int) < (nn : Int) := by omega
        clear hrow
        go_wp2_with fail
        go_loopw [6, 22] (fun mo kk wr => ∃ (F1 : Nat → Bool) (more : Bool) (k : Nat), mo = .bool more ∧ kk = .int .i64 k ∧ k ≤ nn ∧ Hid (VInv g.nxt nn F F1 more k) ∧ Hid (RInv g.nxt (fun v => l.getD v false) nn F1) ∧ wr.rowIs bb 4 nn (boolV F1) ∧ Below w2.heap.size w2 wr) (fun _ kk _ => nn - (intOf kk).toNat)
        case atStart => exact ⟨F, false, 0, rfl, rfl, Nat.zero_le _, hide VInv.start, Hinv, Hrow.out, hb⟩
        case round =>
          obtain ⟨F1, more, k, rfl, rfl, hkn, Hv, Hinv1, hrow1, hb1⟩ := hrel
          have hzr1 := hb1.size
          have Hrow1 := hide hrow1
          by_cases hlt1 : k < nn
          · have hlt1' : (k : Int) < (nn : Int) := by omega
            have hck : wr.cell? ⟨bb, k, none⟩ = some (.bool (F1 k)) := hrow1.cell hlt1
            clear hrow1
            cases hFk : F1 k
            · have Hv2 := hide (Hv.out.skip hFk)
              rw [hFk] at hck
              clear hFk
              go_wp2_with fail
              go_roundw
              case rel => exact ⟨F1, more, k + 1, rfl, by go_num, by omega, Hv2, Hinv1, Hrow1.out, hb1⟩
              case measure => simp [intOf]; omega
            · rw [hFk] at hck
              have HFk := hide hFk
              obtain ⟨b2, off2, r, A2, n2, k2, rfl, hbB2, hrr, hc2w, hri⟩ := Hg2.out.nxt.at_ hlt1
              have hc2 := (hb1.cell (p := ⟨b2, off2 + k, none⟩) (by show b2 < _; omega)).trans hc2w
              have e1 : wr.cell? ⟨w.heap.size, 1, none⟩ = some (.slice (some ⟨b2, off2, none⟩) nn nc) := (hb1.cell (p := ⟨w.heap.size, 1, none⟩) (by show w.heap.size < _; omega)).trans c1
              have Hmr := hide (may_row Hm.out hrr)
              have hn2 : n2 ≤ 3000 := by have h1 := Hmr.out.2.1; have h2 := hri.len; simp only at h2; omega
              have Hri := hide hri
              have Hrr := hide hrr
              clear hri hrr hc2w hFk
              go_wp2_with fail
              clear hck hc2 e1
              go_loopw [6, 36] (fun mo jj wr => ∃ (F2 : Nat → Bool) (more : Bool) (j : Nat), mo = .bool more ∧ jj = .int .i64 j ∧ j ≤ n2 ∧ Hid (F2 k = true) ∧ Hid (WInv g.nxt nn F F2 more k r j) ∧ Hid (RInv g.nxt (fun v => l.getD v false) nn F2) ∧ wr.rowIs bb 4 nn (boolV F2) ∧ Below w2.heap.size w2 wr) (fun _ jj _ => n2 - (intOf jj).toNat)
              case atStart => exact ⟨F1, more, 0, rfl, rfl, Nat.zero_le _, HFk, hide (WInv.start Hv.out), Hinv1, Hrow1.out, hb1⟩
              case round =>
                clear Hv HFk Hinv1 Hrow1
                obtain ⟨F2, more, j, rfl, rfl, hjn, HFk, Hw, Hinv2, hrow2, hb2⟩ := hrel
                have hzr2 := hb2.size
                have Hrow2 := hide hrow2
                by_cases hlt2 : j < n2
                · have hlt2' : (j : Int) < (n2 : Int) := by omega
                  obtain ⟨b3, off3, x, rfl, hbB3, hx, hc3w⟩ := Hri.out.at_ hlt2
                  have hc3 := (hb2.cell (p := ⟨b3, off3 + j, none⟩) (by show b3 < _; omega)).trans hc3w
                  have hxm := List.mem_of_getElem? hx
                  obtain ⟨hx0, hx1⟩ := Hmr.out.2.2 x hxm
                  obtain ⟨q, rfl⟩ := Int.eq_ofNat_of_zero_le hx0
                  have hqn : q < nn := by have := HL1.out; omega
                  have hqn' : (q : Int) < (nn : Int) := by omega
                  have hq0' : (0 : Int) ≤ (q : Int) := by omega
                  have Hxm := hide hxm
                  have hcq : wr.cell? ⟨bb, q, none⟩ = some (.bool (F2 q)) := hrow2.cell hqn
                  have hfz := hrow2.frozen q
                  have Hrp := hide (bool_upd Hrow2.out (q := q))
                  have Hbp := hide (hb2.setCell (p := ⟨bb, q, none⟩) (by show w2.heap.size ≤ bb; exact hbb) (.bool true))
                  cases hFq : F2 q
                  · have Hput := hide (Hinv2.out.put hqn HFk.out Hrr.out Hxm.out)
                    have Hwp := hide (Hw.out.put hqn hFq)
                    have Hfp : Hid (upd F2 q k = true) := hide (upd_of HFk.out)
                    rw [hFq] at hcq
                    clear hx hx0 hx1 hxm hc3w hrow2 hFq
                    cases more
                    · go_wp2_with fail
                      go_roundw
                      case rel => exact ⟨upd F2 q, true, j + 1, rfl, by go_num, by omega, Hfp, Hwp, Hput, Hrp.out, Hbp.out⟩
                      case measure => simp [intOf]; omega
                    · go_wp2_with fail
                      go_roundw
                      case rel => exact ⟨upd F2 q, true, j + 1, rfl, by go_num, by omega, Hfp, Hwp, Hput, Hrp.out, Hbp.out⟩
                      case measure => simp [intOf]; omega
                  · have Hwp := hide (Hw.out.keep hx hFq)
                    have Hrp2 : Hid ((wr.setCell ⟨bb, q, none⟩ (.bool true)).rowIs bb 4 nn (boolV F2)) := hide (by have := Hrp.out; rwa [upd_id hFq] at this)
                    rw [hFq] at hcq
                    clear hx hx0 hx1 hxm hc3w hrow2 hFq
                    cases more
                    · go_wp2_with fail
                      go_roundw
                      case rel => exact ⟨F2, false, j + 1, rfl, by go_num, by omega, HFk, Hwp, Hinv2, Hrp2.out, Hbp.out⟩
                      case measure => simp [intOf]; omega
                    · go_wp2_with fail
                      go_roundw
                      case rel => exact ⟨F2, true, j + 1, rfl, by go_num, by omega, HFk, Hwp, Hinv2, Hrp2.out, Hbp.out⟩
                      case measure => simp [intOf]; omega
                · have hlt2' : ¬ (j : Int) < (n2 : Int) := by omega
                  have Hv3 := hide (Hw.out.done Hrr.out (by have h := Hri.out.len; simp only at h; omega))
                  clear hrow2
                  go_wp2_with fail
                  go_roundw
                  case rel => exact ⟨F2, more, k + 1, rfl, by go_num, by omega, Hv3, Hinv2, Hrow2.out, hb2⟩
                  case measure => simp [intOf]; omega
          · have hlt1' : ¬ (k : Int) < (nn : Int) := by omega
            obtain rfl : k = nn := by omega
            clear hrow1
            cases more
            · have Hres : Hid (wr.rowIs bb 4 k (boolV (reachAt g fun v => l.getD v false))) := hide (Hrow1.out.congr (fun v hv => by
                unfold boolV
                rw [reach_eq (F := F1) (by rw [HL1.out]; exact Hinv1.out.fr) (Hv.out.closed (by rw [HL2.out]; exact Nat.le_refl _)) (by rw [HL1.out]; exact Hinv1.out.rch)]))
              go_wp2_with fail
              go_ret
              exact ⟨⟨_, _, _⟩, rfl, by
                rw [Hd.out]
                exact rb_of Hres.out (by simp) (by unfold maxLen; omega) (fun i x hx => by
                  rw [List.getElem?_map] at hx
                  obtain ⟨j, hj, rfl⟩ := Option.map_eq_some_iff.1 hx
                  obtain ⟨hl, e⟩ := List.getElem?_eq_some_iff.1 hj
                  have : j = i := by rw [← e]; simp
                  subst this; rfl), hbw2.trans (hb1.mono (by omega))⟩
            · have Hc2 : Hid (i + 1 ≤ cnt k F1) := hide (by have h1 := Hv.out.yes rfl; have h2 := Hcnt.out; omega)
              go_wp2_with fail
              go_roundw
              case rel => exact ⟨F1, i + 1, by go_num, by omega, Hc2, Hinv1, Hrow1.out, hb1⟩
              case measure => simp [intOf]; omega
      · have hlt' : ¬ (i : Int) < (nn : Int) := by omega
        obtain rfl : i = nn := by omega
        have Hres : Hid (wr.rowIs bb 4 i (boolV (reachAt g fun v => l.getD v false))) := hide (hrow.congr (fun v hv => by
          unfold boolV
          rw [reach_eq (F := F) (by rw [HL1.out]; exact Hinv.out.fr) (full_closed Hm.out (by rw [HL1.out]; exact Hcnt.out)) (by rw [HL1.out]; exact Hinv.out.rch)]))
        clear hrow
        go_wp2_with fail
        go_ret
        exact ⟨⟨_, _, _⟩, rfl, by
          rw [Hd.out]
          exact rb_of Hres.out (by simp) (by unfold maxLen; omega) (fun i x hx => by
            rw [List.getElem?_map] at hx
            obtain ⟨j, hj, rfl⟩ := Option.map_eq_some_iff.1 hx
            obtain ⟨hl, e⟩ := List.getElem?_eq_some_iff.1 hj
            have : j = i := by rw [← e]; simp
            subst this; rfl), hbw2.trans (hb.mono (by omega))⟩
  · have hm' : (mayG g != 0) = true := by simp [hm]
    have Hd : Hid (reachL g l = []) := hide (by unfold reachL; rw [if_neg hm])
    clear hm
    go_wp2_with fail
    go_ret
    rw [Hd.out]
    exact row_nil hbw2
end Go.Proofs.Ytdcdpknlloffjaa.Gr
