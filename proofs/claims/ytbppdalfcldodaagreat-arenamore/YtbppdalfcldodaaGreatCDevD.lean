/- The program's choice: allSteps. -/
import Derived.Test.YtbppdalfcldodaaGreatCDevC
import Derived.Test.YtbppdalfcldodaaGreatGSm
import Derived.Lib.QuietBelow
import Derived.BigQuiet
set_option maxRecDepth 100000
namespace Go.Proofs.YtbppdalfcldodaaGreat
open Go.RowKit Ex
open Go.Sort (grow)
set_option linter.unusedSimpArgs false
set_option linter.unusedVariables false

def BoxT (w : World) (g : Nat) (A : Option Addr) (n c : Nat) (now nx b : Int) : Prop := w.cell? ⟨g, 0, none⟩ = some (.slice A n c) ∧ w.cell? ⟨g, 1, none⟩ = some (.int .i64 now) ∧ w.cell? ⟨g, 2, none⟩ = some (.int .i64 nx) ∧ w.cell? ⟨g, 3, none⟩ = some (.int .i64 b)
theorem boxT_new (w : World) (A : Option Addr) (n c : Nat) (now nx b : Int) (t : TypeId) : BoxT (w.alloc (.cells #[.slice A n c, .int .i64 now, .int .i64 nx, .int .i64 b] t)) w.heap.size A n c now nx b := by
  unfold BoxT
  exact ⟨cell_of_row _ _ 0 _ t (0, 0) (heap_alloc_new w _), cell_of_row _ _ 1 _ t (0, 0) (heap_alloc_new w _), cell_of_row _ _ 2 _ t (0, 0) (heap_alloc_new w _), cell_of_row _ _ 3 _ t (0, 0) (heap_alloc_new w _)⟩
theorem BoxT.below {w w' : World} {B g : Nat} {A : Option Addr} {n c : Nat} {now nx b : Int} (h : BoxT w g A n c now nx b) (hb : Below B w w') (hB : g < B) : BoxT w' g A n c now nx b :=
  ⟨(hb.cell hB).trans h.1, (hb.cell hB).trans h.2.1, (hb.cell hB).trans h.2.2.1, (hb.cell hB).trans h.2.2.2⟩
theorem rv_take {w : World} {B n : Nat} {A : Option Addr} {l : List Dom.V} (h : Dom.RV w B A n l) (k : Nat) (hk : k ≤ n) : Dom.RV w B A k (l.take k) := by
  refine ⟨by rw [List.length_take, h.1]; omega, fun hp => ?_⟩
  obtain ⟨b, off, e, hb, hc⟩ := h.2 (by omega)
  refine ⟨b, off, e, hb, fun j v hj => hc j v ?_⟩
  have : j < k := by
    have := (List.getElem?_eq_some_iff.1 hj).1
    rw [List.length_take] at this; omega
  rwa [List.getElem?_take_of_lt this] at hj
theorem range_snoc (f : Nat → Int) (k : Nat) : (List.range (k + 1)).map f = (List.range k).map f ++ [f k] := by
  rw [List.range_succ, List.map_append]; rfl

set_option maxHeartbeats 1000000 in
theorem all_any (B : Nat) (Av : Option Addr) (nv cv : Nat) (lv : List Dom.V) (now nx b : Int) (k : Nat) (v : Dom.V) (w : World) (ho : OkVars ⟨Av, nv, cv⟩ lv) (hB : B ≤ w.heap.size)
    (hrv : Dom.RV w B Av nv lv) (hM : Dom.mayL lv = 0) (h0 : 0 ≤ b) (h1 : b < Dom.totL lv) (hv : lv[k]? = some v) :
    Calls Tryz.prog 111 #[.agg #[.slice Av nv cv, .int .i64 now, .int .i64 nx, .int .i64 b], .int .i64 (k : Int)] w (IntsPost w (allL lv b (k : Int) v)) := by
  have hbx : Below w.heap.size w (w.alloc (.cells #[.slice Av nv cv, .int .i64 now, .int .i64 nx, .int .i64 b] 93)) := (Below.refl _ _).alloc (Nat.le_refl _) _
  have Hrv := hide (hrv.below (hbx.mono hB))
  have Hbox := hide (boxT_new w Av nv cv now nx b 93)
  have hz0 : w.heap.size + 1 ≤ (w.alloc (.cells #[.slice Av nv cv, .int .i64 now, .int .i64 nx, .int .i64 b] 93)).heap.size := by simp
  have Hbx := hide hbx
  have Ho := hide ho
  have hkn : k < nv := by have := (List.getElem?_eq_some_iff.1 hv).1; rw [hrv.1] at this; exact this
  have hnc : nv ≤ cv := ho.2.1
  have hmay : v.may = 0 := Dom.mayL_all hM v (List.mem_of_getElem? hv)
  obtain ⟨z, hz, hzp1, hzp2⟩ := size_nat hmay
  have hok : Dom.withOk lv b (k : Int) v.lo = true := by rw [with_ok hM h0 h1 hv]; exact has_iff.2 ⟨by omega, by omega⟩
  obtain ⟨lw0, lw1, _⟩ := Dom.with_good hok
  have ht512 := (Dom.totL_bd lv).2
  obtain ⟨W0, W1⟩ := Dom.totL_bd (lv.take k)
  have Hall : Hid (allL lv b (k : Int) v = (List.range z).map (fun j : Nat => Dom.withV lv b (k : Int) v.lo - b + (j : Int) * Dom.totL (lv.take k))) := hide (by unfold allL; rw [hz, Int.toNat_natCast, Int.toNat_natCast])
  generalize allL lv b (k : Int) v = out at *
  have Hz : Hid (Dom.sizeOfV v.srt v.lo v.hi = (z : Int)) := hide hz
  have hn6 : nv ≤ 6 := by have := Dom.totL_len (Dom.mayL_zero hM).2; rw [hrv.1] at this; exact this
  clear hbx hM hok hrv ho hmay hz
  go_enter Tryz.func111, Tryz.ntmps111
  go_wp2_with fail
  generalize w.alloc (.cells #[.slice Av nv cv, .int .i64 now, .int .i64 nx, .int .i64 b] 93) = W at *
  have hBW : B ≤ W.heap.size := by omega
  have Hqw : Hid (∀ s i x dd os, Calls Tryz.prog 112 #[.slice Av nv cv, .int .i64 s, .int .i64 i, .int .i64 x] (grow (redrawn W dd) os) fun e' w'' => e' = .returned (.tuple #[.int .i64 (Dom.withV lv s i x), .bool (Dom.withOk lv s i x)]) ∧ ∃ p : Regrown, w'' = grow (redrawn W p.d) p.os) := hide (fun s i x dd os =>
    Calls.regrown_of (Dom.with_any Av nv cv B lv s i x _ Ho.out.1 (Nat.le_trans hBW (below_regrown W dd os).size) (Hrv.out.below ((below_regrown W dd os).mono hBW)) Ho.out.2.2.2))
  have C0 := cell_regrown Hbox.out.1
  have C3 := cell_regrown Hbox.out.2.2.2
  obtain ⟨vb, vo, v', eA, hvb, hlk, c0, c1, c2, c3, c4⟩ := Hrv.out.at_ hkn
  have hvv : v' = v := by rw [hlk] at hv; exact Option.some.inj hv
  subst hvv
  subst eA
  have C4 := cell_regrown c3
  have hkn' : ((k : Int) < (nv : Int)) := by omega
  refine wp_region_quiet_below (by kernel_rfl) (by kernel_rfl) ?_
  repeat (go_big_quiet_step (first | (go_at_call 112; exact Hqw.out _ _ _ _ _)))
  refine wpQuiet_nil ?_
  intro w1 hw1
  obtain ⟨pp, hpp⟩ := hw1
  have hb1 : Below W.heap.size W w1 := by rw [hpp]; exact below_regrown W pp.d pp.os
  clear hpp C0 C3 C4 Hqw c0 c1 c2 c3 c4
  have hz1 := hb1.size
  have Hb1 := hide (Hbx.out.trans (hb1.mono (by omega)))
  have Hrv1 := hide (Hrv.out.below (hb1.mono (by omega)))
  have Hbox1 := hide (Hbox.out.below hb1 (by omega))
  clear hb1 Hbx Hrv Hbox
  have hkc : k ≤ cv := by omega
  obtain ⟨q0, q1, q2, q3⟩ := Hbox1.out
  go_wp2_with fail
  clear q0 q1 q2 q3
  refine (Dom.total_any (some ⟨vb, vo, none⟩) k cv B (lv.take k) w1 (by have := Ho.out.1; simp only at this; omega) (by omega) (rv_take Hrv1.out k (by omega))).mono ?_
  rintro e w2 ⟨rfl, hb2⟩
  have hz2 := hb2.size
  have Hb2 := hide (Hb1.out.trans (hb2.mono (by omega)))
  have Hrv2 := hide (Hrv1.out.below (hb2.mono (by omega)))
  have Hbox2 := hide (Hbox1.out.below hb2 (by omega))
  clear hb2 Hb1 Hrv1 Hbox1
  generalize Dom.totL (lv.take k) = Wt at *
  generalize Dom.withV lv b (k : Int) v'.lo = lw at *
  obtain ⟨vb2, vo2, v2, eA, hvb2, hlk2, c0, c1, c2, c3, c4⟩ := Hrv2.out.at_ hkn
  obtain rfl : v2 = v' := by rw [hlk2] at hv; exact Option.some.inj hv
  injection eA with eA
  injection eA with e1 e2
  subst e1; subst e2
  obtain ⟨q0, q1, q2, q3⟩ := Hbox2.out
  go_wp2_with fail
  clear q0 q1 q2 q3 c0 c1 c2 c3 c4
  refine (Dom.size_any _ _ _ _ _ w2).mono ?_
  rintro e w3 ⟨rfl, hb3⟩
  have hz3 := hb3.size
  have Hb3 := hide (Hb2.out.trans (hb3.mono (by omega)))
  have Hbox3 := hide (Hbox2.out.below hb3 (by omega))
  clear hb3 Hb2 Hbox2 Hrv2
  rw [Hz.out]
  obtain ⟨i0, hi0, hi1, hi2, hi3⟩ := info_parts Dom.info3
  have Hi0 := hide hi0; have Hi1 := hide hi1; have Hi2 := hide hi2; have Hi3 := hide hi3
  clear hi0 hi1 hi2 hi3
  go_wp2_with fail
  go_loopw [8, 36] (fun ov i wr => ∃ (j c : Nat) (O : Option Addr), j ≤ z ∧ i = .int .i64 j ∧ ov = .slice O j c ∧ wr.ownsRow w3.heap.size 3 1 (.slice O j c) j (ints ((List.range j).map (fun j : Nat => lw - b + (j : Int) * Wt))) ∧ Below w3.heap.size w3 wr) (fun _ i _ => z - (intOf i).toNat)
  case atStart => exact ⟨0, 0, none, by omega, rfl, rfl, ⟨rfl, .inl ⟨rfl, rfl⟩⟩, Below.refl _ _⟩
  case round =>
    obtain ⟨j, c, O, hj, rfl, rfl, how, hb⟩ := hrel
    have How := hide how
    have Hb := hide hb
    have hzr := hb.size
    clear how hb
    by_cases hlt : j < z
    · have hlt' : ((j : Int) < (z : Int)) := by omega
      obtain ⟨q0, q1, q2, q3⟩ := Hbox3.out.below Hb.out (by omega)
      have jw0 : 0 ≤ (j : Int) * Wt := Int.mul_nonneg (by omega) W0
      have jw1 : (j : Int) * Wt ≤ 2001 * 512 := Int.mul_le_mul (by omega) W1 W0 (by omega)
      have Hs := hide (range_snoc (fun j : Nat => lw - b + (j : Int) * Wt) j)
      have hw1 : wrap64 (lw - b) = lw - b := Dom.wrap64_mid _ (by omega) (by omega)
      have hw2 : wrap64 ((j : Int) * Wt) = (j : Int) * Wt := Dom.wrap64_mid _ (by omega) (by omega)
      have hw3 : wrap64 (lw - b + (j : Int) * Wt) = lw - b + (j : Int) * Wt := Dom.wrap64_mid _ (by omega) (by omega)
      go_wp2_with (at_builtin; (try simp only [hw1, hw2, hw3]); refine wpList_append_lies _ rfl _ _ _ rfl w3.heap.size 3 i0 _ 1 8 Tryz.underlying32 Hi0.out Hi1.out Hi2.out Hi3.out rfl (by omega) (.slice O j c) j (ints ((List.range j).map (fun j : Nat => lw - b + (j : Int) * Wt))) rfl (How.out.alloc _) ⟨wr.heap.size, 0, none⟩ 1 1 [.int .i64 (lw - b + (j : Int) * Wt)] rfl rfl (World.news_of_block (cs := #[.int .i64 (lw - b + (j : Int) * Wt)]) (t := 3) (fr := (0, 0)) (heap_alloc_new wr _)) (by simp [Value.oneCell']) (by omega) (by unfold maxLen; omega) (by omega) (by simp; omega) _ rfl ?_; intro g5 cap5 w5 hown5 hgrow5 hat5 hlt5)
      have hb5 : Below w3.heap.size w3 w5 := (Hb.out.alloc (by omega) _).grown hgrow5 (by simp; omega) (fun j hj => by have := (How.out.lt j hj).1; omega)
      have Ho5 := hide hown5
      rw [ints_snoc, ← Hs.out] at Ho5
      clear hown5 hgrow5 hat5 q0 q1 q2 q3
      go_roundw
      case rel => exact ⟨j + 1, cap5, some ⟨g5, 0, none⟩, by omega, by go_num, rfl, Ho5.out, hb5⟩
      case measure => simp [intOf]; omega
    · have hlt' : ¬ ((j : Int) < (z : Int)) := by omega
      obtain rfl : j = z := by omega
      go_wp2_with fail
      go_ret
      rw [Hall.out]
      exact ⟨O, j, c, rfl, own_base0 How.out (by have := Hb3.out.size; omega), by simp, Hb3.out.trans (Hb.out.mono (by have := Hb3.out.size; omega))⟩
end Go.Proofs.YtbppdalfcldodaaGreat
