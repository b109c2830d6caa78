/- The program's choice: free. The program's choice: allSteps. The program's choice: steps. The program's choice: leads. -/
import Derived.Test.YtbppdalfcldodaaGreatGLead
import Derived.Test.YtbppdalfcldodaaGreatGCnt
import Derived.Test.YtbppdalfcldodaaGreatGSm
import Derived.Lib.QuietBelow
import Derived.BigQuiet
set_option maxRecDepth 100000
namespace Go.Proofs.YtbppdalfcldodaaGreat
open Go.RowKit Ex
set_option linter.unusedSimpArgs false
set_option linter.unusedVariables false

theorem info50 : (Tryz.prog.info? 111).map (fun i => (i.zero, i.size, i.bytes)) = some (some (.agg #[.int .i64 0, .bool false, .int .i64 0, .int .i64 0, .slice none 0 0]), 5, 56) := by kernel_rfl
theorem any_app (e : Bool) : ∀ (a b : List Dom.V) (k : Nat), anyGo e k (a ++ b) = anyGo e k a ++ anyGo e (k + a.length) b
  | [], b, k => by simp [anyGo]
  | v :: r, b, k => by
    have h := any_app e r b (k + 1)
    rw [List.cons_append, anyGo, anyGo, h, List.length_cons, show k + (r.length + 1) = k + 1 + r.length by omega]
    split <;> simp
theorem any_take {e : Bool} {l : List Dom.V} {k : Nat} {v : Dom.V} (h : l[k]? = some v) : anyGo e 0 (l.take (k + 1)) = anyGo e 0 (l.take k) ++ (if v.env = e then [⟨(k : Int), true, .mk 0 0 []⟩] else []) := by
  have hk := (List.getElem?_eq_some_iff.1 h).1
  rw [List.take_add_one, h, Option.toList_some, any_app, List.length_take, Nat.min_eq_left (by omega), Nat.zero_add]
  simp [anyGo]
def FreeC (ch : List Value) (s : ST) : Prop := ch = [.int .i64 s.var, .bool s.any, .int .i64 0, .int .i64 0, .slice none 0 0] ∧ s.e = .mk 0 0 []
theorem ex_zero (w : World) (B : Nat) : EX w B ⟨0, 0, none, 0, 0⟩ (.mk 0 0 []) := ⟨1, RE.leaf w B 0 0 0⟩
/- a row of sets that is handed back -/
def SetsPost (w : World) (ss : List ST) (e : Ending) (w' : World) : Prop := ∃ O n c, e = .returned (.slice O n c) ∧ Rows SetAt 5 w' w'.heap.size ⟨O, n, c⟩ ss ∧ Below w.heap.size w w'

set_option maxHeartbeats 1000000 in
theorem free_any (B : Nat) (Av : Option Addr) (nv cv : Nat) (lv : List Dom.V) (env : Bool) (w : World) (hn : nv ≤ 6) (hB : B ≤ w.heap.size) (hrv : Dom.RV w B Av nv lv) :
    Calls Tryz.prog 58 #[.slice Av nv cv, .bool env] w (SetsPost w (anyGo env 0 lv)) := by
  have Hrv := hide hrv
  have Hnl := hide hrv.1
  clear hrv
  obtain ⟨i0, hi0, hi1, hi2, hi3⟩ := info_parts info50
  have Hi0 := hide hi0; have Hi1 := hide hi1; have Hi2 := hide hi2; have Hi3 := hide hi3
  clear hi0 hi1 hi2 hi3
  go_enter Tryz.func58, Tryz.ntmps58
  go_wp2_with fail
  go_loopw [5, 10] (fun ov i wr => ∃ (k m c : Nat) (O : Option Addr) (ks : List (List Value)), k ≤ nv ∧ i = .int .i64 k ∧ ov = .slice O m c ∧ m ≤ k ∧ Chunk 5 FreeC ks (anyGo env 0 (lv.take k)) ∧ wr.ownsRow w.heap.size 111 5 (.slice O m c) m ks.flatten ∧ Below w.heap.size w wr) (fun _ i _ => nv - (intOf i).toNat)
  case atStart => exact ⟨0, 0, 0, none, [], by omega, rfl, rfl, Nat.le_refl _, Chunk.nil, ⟨rfl, .inl ⟨rfl, rfl⟩⟩, Below.refl _ _⟩
  case round =>
    obtain ⟨k, m, c, O, ks, hk, rfl, rfl, hm, hch, how, hb⟩ := hrel
    have How := hide how
    have Hb := hide hb
    have Hch := hide hch
    have hzr := hb.size
    clear how hb hch
    by_cases hlt : k < nv
    · have hlt' : ((k : Int) < (nv : Int)) := by omega
      obtain ⟨b, off, v, rfl, hbB, hlk, c0, c1, c2, c3, c4⟩ := (Hrv.out.below (Hb.out.mono hB)).at_ hlt
      have Hta := hide (any_take (e := env) hlk)
      clear hlk
      have hbA := (Below.refl wr.heap.size wr).alloc (Nat.le_refl _) (.cells #[.string v.nm, .bool v.env, .int .i64 v.srt, .int .i64 v.lo, .int .i64 v.hi] 103)
      have How2 := hide (own_below How.out hbA)
      have Hb2 := hide (Hb.out.trans (hbA.mono hzr))
      have hz2 : wr.heap.size + 1 ≤ (wr.alloc (.cells #[.string v.nm, .bool v.env, .int .i64 v.srt, .int .i64 v.lo, .int .i64 v.hi] 103)).heap.size := by simp
      have hs3 : (wr.alloc (.cells #[.string v.nm, .bool v.env, .int .i64 v.srt, .int .i64 v.lo, .int .i64 v.hi] 103)).heap.size = wr.heap.size + 1 := by simp
      obtain ⟨d0, d1, d2, d3, d4⟩ := Dom.box_new wr v 103
      clear hbA How Hb
      by_cases he : v.env = env
      · have heb : (v.env == env) = true := by simp [he]
        rw [if_pos he] at Hta
        clear he
        go_wp2_with (at_builtin; generalize wr.alloc (.cells #[.string v.nm, .bool v.env, .int .i64 v.srt, .int .i64 v.lo, .int .i64 v.hi] 103) = w3 at *; refine wpList_append_lies _ rfl _ _ _ rfl w.heap.size 111 i0 _ 5 56 Tryz.underlying69 Hi0.out Hi1.out Hi2.out Hi3.out rfl (by omega) (.slice O m c) m ks.flatten rfl (How2.out.alloc _) ⟨wr.heap.size + 1, 0, none⟩ 1 1 [.int .i64 (k : Int), .bool true, .int .i64 0, .int .i64 0, .slice none 0 0] rfl rfl (by rw [← hs3]; exact World.news_of_block (cs := #[.int .i64 (k : Int), .bool true, .int .i64 0, .int .i64 0, .slice none 0 0]) (t := 111) (fr := (0, 0)) (heap_alloc_new w3 _)) (by simp [Value.oneCell']) (by omega) (by unfold maxLen; omega) (by omega) (by simp; omega) _ rfl ?_; intro g5 cap5 w5 hown5 hgrow5 hat5 hlt5)
        have hb5 : Below w.heap.size w w5 := (Hb2.out.alloc (by omega) _).grown hgrow5 (by simp; omega) (fun j hj => by have := (How2.out.lt j hj).1; omega)
        have Ho5 := hide hown5
        rw [← rows_flat_snoc] at Ho5
        clear hown5 hgrow5 hat5 d0 d1 d2 d3 d4
        go_roundw
        case rel => exact ⟨k + 1, m + 1, cap5, some ⟨g5, 0, none⟩, _, by omega, by go_num, rfl, by omega, by rw [Hta.out]; exact Hch.out.snoc rfl (by simp [Value.oneCell']) ⟨rfl, rfl⟩, Ho5.out, hb5⟩
        case measure => simp [intOf]; omega
      · have heb : (v.env == env) = false := by simp [he]
        rw [if_neg he, List.append_nil] at Hta
        clear he
        go_wp2_with fail
        clear d0 d1 d2 d3 d4
        go_roundw
        case rel => exact ⟨k + 1, m, c, O, ks, by omega, by go_num, rfl, by omega, by rw [Hta.out]; exact Hch.out, How2.out, Hb2.out⟩
        case measure => simp [intOf]; omega
    · have hlt' : ¬ ((k : Int) < (nv : Int)) := by omega
      obtain rfl : k = nv := by omega
      go_wp2_with fail
      go_ret
      have hc := Hch.out
      rw [← Hnl.out, List.take_length] at hc
      refine ⟨O, m, c, rfl, own_rows (by omega) How.out hc (fun b o ch a _ h1 h2 => set_back ⟨⟨0, 0, none, 0, 0⟩, h1.1, by rw [h1.2]; exact ex_zero _ _⟩ h2), Hb.out⟩
end Go.Proofs.YtbppdalfcldodaaGreat
set_option maxRecDepth 100000
namespace Go.Proofs.YtbppdalfcldodaaGreat
open Go.RowKit Ex
open Go.Sort (grow)
set_option linter.unusedSimpArgs false
set_option linter.unusedVariables false

def BoxT (w : World) (g : Nat) (A : Option Addr) (n c : Nat) (now nx b : Int) : Prop := w.cell? ⟨g, 0, none⟩ = some (.slice A n c) ∧ w.cell? ⟨g, 1, none⟩ = some (.int .i64 now) ∧ w.cell? ⟨g, 2, none⟩ = some (.int .i64 nx) ∧ w.cell? ⟨g, 3, none⟩ = some (.int .i64 b)
theorem boxT_new (w : World) (A : Option Addr) (n c : Nat) (now nx b : Int) (t : TypeId) : BoxT (w.alloc (.cells #[.slice A n c, .int .i64 now, .int .i64 nx, .int .i64 b] t)) w.heap.size A n c now nx b := by
  unfold BoxT
  exact ⟨cell_of_row _ _ 0 _ t (0, 0) (heap_alloc_new w _), cell_of_row _ _ 1 _ t (0, 0) (heap_alloc_new w _), cell_of_row _ _ 2 _ t (0, 0) (heap_alloc_new w _), cell_of_row _ _ 3 _ t (0, 0) (heap_alloc_new w _)⟩
theorem BoxT.below {w w' : World} {B g : Nat} {A : Option Addr} {n c : Nat} {now nx b : Int} (h : BoxT w g A n c now nx b) (hb : Below B w w') (hB : g < B) : BoxT w' g A n c now nx b :=
  ⟨(hb.cell hB).trans h.1, (hb.cell hB).trans h.2.1, (hb.cell hB).trans h.2.2.1, (hb.cell hB).trans h.2.2.2⟩
theorem rv_take {w : World} {B n : Nat} {A : Option Addr} {l : List Dom.V} (h : Dom.RV w B A n l) (k : Nat) (hk : k ≤ n) : Dom.RV w B A k (l.take k) := by
  refine ⟨by rw [List.length_take, h.1]; omega, fun hp => ?_⟩
  obtain ⟨b, off, e, hb, hc⟩ := h.2 (by omega)
  refine ⟨b, off, e, hb, fun j v hj => hc j v ?_⟩
  have : j < k := by
    have := (List.getElem?_eq_some_iff.1 hj).1
    rw [List.length_take] at this; omega
  rwa [List.getElem?_take_of_lt this] at hj
theorem range_snoc (f : Nat → Int) (k : Nat) : (List.range (k + 1)).map f = (List.range k).map f ++ [f k] := by
  rw [List.range_succ, List.map_append]; rfl

set_option maxHeartbeats 1000000 in
theorem all_any (B : Nat) (Av : Option Addr) (nv cv : Nat) (lv : List Dom.V) (now nx b : Int) (k : Nat) (v : Dom.V) (w : World) (ho : OkVars ⟨Av, nv, cv⟩ lv) (hB : B ≤ w.heap.size)
    (hrv : Dom.RV w B Av nv lv) (hM : Dom.mayL lv = 0) (h0 : 0 ≤ b) (h1 : b < Dom.totL lv) (hv : lv[k]? = some v) :
    Calls Tryz.prog 111 #[.agg #[.slice Av nv cv, .int .i64 now, .int .i64 nx, .int .i64 b], .int .i64 (k : Int)] w (IntsPost w (allL lv b (k : Int) v)) := by
  have hbx : Below w.heap.size w (w.alloc (.cells #[.slice Av nv cv, .int .i64 now, .int .i64 nx, .int .i64 b] 93)) := (Below.refl _ _).alloc (Nat.le_refl _) _
  have Hrv := hide (hrv.below (hbx.mono hB))
  have Hbox := hide (boxT_new w Av nv cv now nx b 93)
  have hz0 : w.heap.size + 1 ≤ (w.alloc (.cells #[.slice Av nv cv, .int .i64 now, .int .i64 nx, .int .i64 b] 93)).heap.size := by simp
  have Hbx := hide hbx
  have Ho := hide ho
  have hkn : k < nv := by have := (List.getElem?_eq_some_iff.1 hv).1; rw [hrv.1] at this; exact this
  have hnc : nv ≤ cv := ho.2.1
  have hmay : v.may = 0 := Dom.mayL_all hM v (List.mem_of_getElem? hv)
  obtain ⟨z, hz, hzp1, hzp2⟩ := size_nat hmay
  have hok : Dom.withOk lv b (k : Int) v.lo = true := by rw [with_ok hM h0 h1 hv]; exact has_iff.2 ⟨by omega, by omega⟩
  obtain ⟨lw0, lw1, _⟩ := Dom.with_good hok
  have ht512 := (Dom.totL_bd lv).2
  obtain ⟨W0, W1⟩ := Dom.totL_bd (lv.take k)
  have Hall : Hid (allL lv b (k : Int) v = (List.range z).map (fun j : Nat => Dom.withV lv b (k : Int) v.lo - b + (j : Int) * Dom.totL (lv.take k))) := hide (by unfold allL; rw [hz, Int.toNat_natCast, Int.toNat_natCast])
  generalize allL lv b (k : Int) v = out at *
  have Hz : Hid (Dom.sizeOfV v.srt v.lo v.hi = (z : Int)) := hide hz
  have hn6 : nv ≤ 6 := by have := Dom.totL_len (Dom.mayL_zero hM).2; rw [hrv.1] at this; exact this
  clear hbx hM hok hrv ho hmay hz
  go_enter Tryz.func111, Tryz.ntmps111
  go_wp2_with fail
  generalize w.alloc (.cells #[.slice Av nv cv, .int .i64 now, .int .i64 nx, .int .i64 b] 93) = W at *
  have hBW : B ≤ W.heap.size := by omega
  have Hqw : Hid (∀ s i x dd os, Calls Tryz.prog 112 #[.slice Av nv cv, .int .i64 s, .int .i64 i, .int .i64 x] (grow (redrawn W dd) os) fun e' w'' => e' = .returned (.tuple #[.int .i64 (Dom.withV lv s i x), .bool (Dom.withOk lv s i x)]) ∧ ∃ p : Regrown, w'' = grow (redrawn W p.d) p.os) := hide (fun s i x dd os =>
    Calls.regrown_of (Dom.with_any Av nv cv B lv s i x _ Ho.out.1 (Nat.le_trans hBW (below_regrown W dd os).size) (Hrv.out.below ((below_regrown W dd os).mono hBW)) Ho.out.2.2.2))
  have C0 := cell_regrown Hbox.out.1
  have C3 := cell_regrown Hbox.out.2.2.2
  obtain ⟨vb, vo, v', eA, hvb, hlk, c0, c1, c2, c3, c4⟩ := Hrv.out.at_ hkn
  have hvv : v' = v := by rw [hlk] at hv; exact Option.some.inj hv
  subst hvv
  subst eA
  have C4 := cell_regrown c3
  have hkn' : ((k : Int) < (nv : Int)) := by omega
  refine wp_region_quiet_below (by kernel_rfl) (by kernel_rfl) ?_
  repeat (go_big_quiet_step (first | (go_at_call 112; exact Hqw.out _ _ _ _ _)))
  refine wpQuiet_nil ?_
  intro w1 hw1
  obtain ⟨pp, hpp⟩ := hw1
  have hb1 : Below W.heap.size W w1 := by rw [hpp]; exact below_regrown W pp.d pp.os
  clear hpp C0 C3 C4 Hqw c0 c1 c2 c3 c4
  have hz1 := hb1.size
  have Hb1 := hide (Hbx.out.trans (hb1.mono (by omega)))
  have Hrv1 := hide (Hrv.out.below (hb1.mono (by omega)))
  have Hbox1 := hide (Hbox.out.below hb1 (by omega))
  clear hb1 Hbx Hrv Hbox
  have hkc : k ≤ cv := by omega
  obtain ⟨q0, q1, q2, q3⟩ := Hbox1.out
  go_wp2_with fail
  clear q0 q1 q2 q3
  refine (Dom.total_any (some ⟨vb, vo, none⟩) k cv B (lv.take k) w1 (by have := Ho.out.1; simp only at this; omega) (by omega) (rv_take Hrv1.out k (by omega))).mono ?_
  rintro e w2 ⟨rfl, hb2⟩
  have hz2 := hb2.size
  have Hb2 := hide (Hb1.out.trans (hb2.mono (by omega)))
  have Hrv2 := hide (Hrv1.out.below (hb2.mono (by omega)))
  have Hbox2 := hide (Hbox1.out.below hb2 (by omega))
  clear hb2 Hb1 Hrv1 Hbox1
  generalize Dom.totL (lv.take k) = Wt at *
  generalize Dom.withV lv b (k : Int) v'.lo = lw at *
  obtain ⟨vb2, vo2, v2, eA, hvb2, hlk2, c0, c1, c2, c3, c4⟩ := Hrv2.out.at_ hkn
  obtain rfl : v2 = v' := by rw [hlk2] at hv; exact Option.some.inj hv
  injection eA with eA
  injection eA with e1 e2
  subst e1; subst e2
  obtain ⟨q0, q1, q2, q3⟩ := Hbox2.out
  go_wp2_with fail
  clear q0 q1 q2 q3 c0 c1 c2 c3 c4
  refine (Dom.size_any _ _ _ _ _ w2).mono ?_
  rintro e w3 ⟨rfl, hb3⟩
  have hz3 := hb3.size
  have Hb3 := hide (Hb2.out.trans (hb3.mono (by omega)))
  have Hbox3 := hide (Hbox2.out.below hb3 (by omega))
  clear hb3 Hb2 Hbox2 Hrv2
  rw [Hz.out]
  obtain ⟨i0, hi0, hi1, hi2, hi3⟩ := info_parts Dom.info3
  have Hi0 := hide hi0; have Hi1 := hide hi1; have Hi2 := hide hi2; have Hi3 := hide hi3
  clear hi0 hi1 hi2 hi3
  go_wp2_with fail
  go_loopw [8, 36] (fun ov i wr => ∃ (j c : Nat) (O : Option Addr), j ≤ z ∧ i = .int .i64 j ∧ ov = .slice O j c ∧ wr.ownsRow w3.heap.size 3 1 (.slice O j c) j (ints ((List.range j).map (fun j : Nat => lw - b + (j : Int) * Wt))) ∧ Below w3.heap.size w3 wr) (fun _ i _ => z - (intOf i).toNat)
  case atStart => exact ⟨0, 0, none, by omega, rfl, rfl, ⟨rfl, .inl ⟨rfl, rfl⟩⟩, Below.refl _ _⟩
  case round =>
    obtain ⟨j, c, O, hj, rfl, rfl, how, hb⟩ := hrel
    have How := hide how
    have Hb := hide hb
    have hzr := hb.size
    clear how hb
    by_cases hlt : j < z
    · have hlt' : ((j : Int) < (z : Int)) := by omega
      obtain ⟨q0, q1, q2, q3⟩ := Hbox3.out.below Hb.out (by omega)
      have jw0 : 0 ≤ (j : Int) * Wt := Int.mul_nonneg (by omega) W0
      have jw1 : (j : Int) * Wt ≤ 2001 * 512 := Int.mul_le_mul (by omega) W1 W0 (by omega)
      have Hs := hide (range_snoc (fun j : Nat => lw - b + (j : Int) * Wt) j)
      have hw1 : wrap64 (lw - b) = lw - b := Dom.wrap64_mid _ (by omega) (by omega)
      have hw2 : wrap64 ((j : Int) * Wt) = (j : Int) * Wt := Dom.wrap64_mid _ (by omega) (by omega)
      have hw3 : wrap64 (lw - b + (j : Int) * Wt) = lw - b + (j : Int) * Wt := Dom.wrap64_mid _ (by omega) (by omega)
      go_wp2_with (at_builtin; (try simp only [hw1, hw2, hw3]); refine wpList_append_lies _ rfl _ _ _ rfl w3.heap.size 3 i0 _ 1 8 Tryz.underlying32 Hi0.out Hi1.out Hi2.out Hi3.out rfl (by omega) (.slice O j c) j (ints ((List.range j).map (fun j : Nat => lw - b + (j : Int) * Wt))) rfl (How.out.alloc _) ⟨wr.heap.size, 0, none⟩ 1 1 [.int .i64 (lw - b + (j : Int) * Wt)] rfl rfl (World.news_of_block (cs := #[.int .i64 (lw - b + (j : Int) * Wt)]) (t := 3) (fr := (0, 0)) (heap_alloc_new wr _)) (by simp [Value.oneCell']) (by omega) (by unfold maxLen; omega) (by omega) (by simp; omega) _ rfl ?_; intro g5 cap5 w5 hown5 hgrow5 hat5 hlt5)
      have hb5 : Below w3.heap.size w3 w5 := (Hb.out.alloc (by omega) _).grown hgrow5 (by simp; omega) (fun j hj => by have := (How.out.lt j hj).1; omega)
      have Ho5 := hide hown5
      rw [ints_snoc, ← Hs.out] at Ho5
      clear hown5 hgrow5 hat5 q0 q1 q2 q3
      go_roundw
      case rel => exact ⟨j + 1, cap5, some ⟨g5, 0, none⟩, by omega, by go_num, rfl, Ho5.out, hb5⟩
      case measure => simp [intOf]; omega
    · have hlt' : ¬ ((j : Int) < (z : Int)) := by omega
      obtain rfl : j = z := by omega
      go_wp2_with fail
      go_ret
      rw [Hall.out]
      exact ⟨O, j, c, rfl, own_base0 How.out (by have := Hb3.out.size; omega), by simp, Hb3.out.trans (Hb.out.mono (by have := Hb3.out.size; omega))⟩
end Go.Proofs.YtbppdalfcldodaaGreat
set_option maxRecDepth 100000
namespace Go.Proofs.YtbppdalfcldodaaGreat
open Go.RowKit Ex
open Go.Sort (grow)
set_option linter.unusedSimpArgs false
set_option linter.unusedVariables false

def BoxS (w : World) (g : Nat) (k : Int) (p : Bool) (op n : Int) (A : Option Addr) (len cap : Nat) : Prop := w.cell? ⟨g, 0, none⟩ = some (.int .i64 k) ∧ w.cell? ⟨g, 1, none⟩ = some (.bool p) ∧ w.cell? ⟨g, 2, none⟩ = some (.int .i64 op) ∧ w.cell? ⟨g, 3, none⟩ = some (.int .i64 n) ∧ w.cell? ⟨g, 4, none⟩ = some (.slice A len cap)
theorem boxS_new (w : World) (k : Int) (p : Bool) (op n : Int) (A : Option Addr) (len cap : Nat) (t : TypeId) : BoxS (w.alloc (.cells #[.int .i64 k, .bool p, .int .i64 op, .int .i64 n, .slice A len cap] t)) w.heap.size k p op n A len cap :=
  ⟨cell_of_row _ _ 0 _ t (0, 0) (heap_alloc_new w _), cell_of_row _ _ 1 _ t (0, 0) (heap_alloc_new w _), cell_of_row _ _ 2 _ t (0, 0) (heap_alloc_new w _), cell_of_row _ _ 3 _ t (0, 0) (heap_alloc_new w _), cell_of_row _ _ 4 _ t (0, 0) (heap_alloc_new w _)⟩
theorem BoxS.below {w w' : World} {B g : Nat} {k : Int} {p : Bool} {op n : Int} {A : Option Addr} {len cap : Nat} (h : BoxS w g k p op n A len cap) (hb : Below B w w') (hB : g < B) : BoxS w' g k p op n A len cap :=
  ⟨(hb.cell hB).trans h.1, (hb.cell hB).trans h.2.1, (hb.cell hB).trans h.2.2.1, (hb.cell hB).trans h.2.2.2.1, (hb.cell hB).trans h.2.2.2.2⟩

set_option maxHeartbeats 1000000 in
theorem steps_any (B : Nat) (Av : Option Addr) (nv cv : Nat) (lv : List Dom.V) (now nx b : Int) (k : Nat) (p : Bool) (t : T) (d : Nat) (op n : Int) (A : Option Addr) (len cap : Nat) (w : World) (ho : OkVars ⟨Av, nv, cv⟩ lv) (hB : B ≤ w.heap.size)
    (hrv : Dom.RV w B Av nv lv) (hre : RE w B d op n A len cap t) (hM : Dom.mayL lv = 0) (h0 : 0 ≤ b) (h1 : b < Dom.totL lv) (hk : k < lv.length) :
    Calls Tryz.prog 89 #[.agg #[.slice Av nv cv, .int .i64 now, .int .i64 nx, .int .i64 b], .agg #[.int .i64 (k : Int), .bool p, .int .i64 op, .int .i64 n, .slice A len cap]] w (IntsPost w (stepsL lv now nx b ⟨(k : Int), p, t⟩)) := by
  have hbx : Below w.heap.size w (w.alloc (.cells #[.slice Av nv cv, .int .i64 now, .int .i64 nx, .int .i64 b] 93)) := (Below.refl _ _).alloc (Nat.le_refl _) _
  have Hbox := hide (boxT_new w Av nv cv now nx b 93)
  have hz0 : (w.alloc (.cells #[.slice Av nv cv, .int .i64 now, .int .i64 nx, .int .i64 b] 93)).heap.size = w.heap.size + 1 := by simp
  have Hrv := hide (hrv.below (hbx.mono hB))
  have Hre := hide (hre.below (hbx.mono hB))
  have Ho := hide ho
  have HM := hide hM
  obtain ⟨v, hv⟩ : ∃ v, lv[k]? = some v := ⟨_, List.getElem?_eq_getElem hk⟩
  have ht512 := (Dom.totL_bd lv).2
  have Hs : Hid (stepsL lv now nx b ⟨(k : Int), p, t⟩ = if p = true then allL lv b (k : Int) v else if (valE lv t now nx).2 = 0 then (if Dom.withOk lv b (k : Int) (valE lv t now nx).1 = true then [Dom.withV lv b (k : Int) (valE lv t now nx).1 - b] else []) else []) := hide (by
    unfold stepsL
    simp only [Int.toNat_natCast, hv])
  generalize stepsL lv now nx b ⟨(k : Int), p, t⟩ = out at *
  have Hbx := hide hbx
  clear hrv hre ho hM hbx
  have hbx2 := (Below.refl (w.heap.size + 1) (w.alloc (.cells #[.slice Av nv cv, .int .i64 now, .int .i64 nx, .int .i64 b] 93))).alloc (by omega) (.cells #[.int .i64 (k : Int), .bool p, .int .i64 op, .int .i64 n, .slice A len cap] 111)
  have Hset := hide (boxS_new (w.alloc (.cells #[.slice Av nv cv, .int .i64 now, .int .i64 nx, .int .i64 b] 93)) (k : Int) p op n A len cap 111)
  rw [hz0] at Hset
  have hz2 : ((w.alloc (.cells #[.slice Av nv cv, .int .i64 now, .int .i64 nx, .int .i64 b] 93)).alloc (.cells #[.int .i64 (k : Int), .bool p, .int .i64 op, .int .i64 n, .slice A len cap] 111)).heap.size = w.heap.size + 2 := by simp
  have Hbox2 := hide (Hbox.out.below hbx2 (by omega))
  have Hrv2 := hide (Hrv.out.below (hbx2.mono (by omega)))
  have Hre2 := hide (Hre.out.below (hbx2.mono (by omega)))
  have Hb2 := hide (Hbx.out.trans (hbx2.mono (by omega)))
  clear hbx2 Hbox Hrv Hre Hbx hz0
  obtain ⟨s0, s1, s2, s3, s4⟩ := Hset.out
  obtain ⟨q0, q1, q2, q3⟩ := Hbox2.out
  cases p
  · rw [if_neg (by simp)] at Hs
    go_enter Tryz.func89, Tryz.ntmps89
    go_wp2_with fail
    clear s0 s1 s2 s3 s4 q0 q1 q2 q3
    generalize (w.alloc (.cells #[.slice Av nv cv, .int .i64 now, .int .i64 nx, .int .i64 b] 93)).alloc (.cells #[.int .i64 (k : Int), .bool false, .int .i64 op, .int .i64 n, .slice A len cap] 111) = W at *
    refine (dval_any B Av nv cv lv d op n A len cap t now nx W Ho.out.1 Ho.out.2.1 Ho.out.2.2.1 (by omega) Hre2.out Hrv2.out Ho.out.2.2.2).mono ?_
    rintro e w1 ⟨rfl, hb1⟩
    have hz1 := hb1.size
    have Hb3 := hide (Hb2.out.trans (hb1.mono (by omega)))
    have Hrv3 := hide (Hrv2.out.below (hb1.mono (by omega)))
    have Hbox3 := hide (Hbox2.out.below hb1 (by omega))
    have Hset3 := hide (Hset.out.below hb1 (by omega))
    clear hb1 Hb2 Hrv2 Hre2 Hbox2 Hset
    generalize valE lv t now nx = r at *
    obtain ⟨r1, r2⟩ := r
    simp only at Hs ⊢
    by_cases hr : r2 = 0
    · have hrb : (r2 != 0) = false := by simp [hr]
      rw [if_pos hr] at Hs
      clear hr
      obtain ⟨s0, s1, s2, s3, s4⟩ := Hset3.out
      obtain ⟨q0, q1, q2, q3⟩ := Hbox3.out
      go_wp2_with fail
      clear s0 s1 s2 s3 s4 q0 q1 q2 q3
      refine (Dom.with_any Av nv cv B lv b (k : Int) r1 w1 Ho.out.1 (by omega) Hrv3.out Ho.out.2.2.2).mono ?_
      rintro e w2 ⟨rfl, hb2⟩
      have hz4 := hb2.size
      have Hb4 := hide (Hb3.out.trans (hb2.mono (by omega)))
      have Hbox4 := hide (Hbox3.out.below hb2 (by omega))
      clear hb2 Hb3 Hrv3 Hbox3 Hset3
      by_cases hok : Dom.withOk lv b (k : Int) r1 = true
      · rw [if_pos hok] at Hs
        obtain ⟨g1, g2, _⟩ := Dom.with_good hok
        rw [hok]
        clear hok
        generalize Dom.withV lv b (k : Int) r1 = wv at *
        obtain ⟨q0, q1, q2, q3⟩ := Hbox4.out
        have hw1 : wrap64 (wv - b) = wv - b := Dom.wrap64_mid _ (by omega) (by omega)
        go_wp2_with fail
        clear q0 q1 q2 q3
        go_ret
        rw [Hs.out]
        try rw [hw1]
        exact ⟨_, 1, 1, rfl, World.ownsRow_lit w2 #[.int .i64 (wv - b)] 1 (by have := Hb4.out.size; omega) (by unfold maxLen; omega) rfl, rfl, Hb4.out.alloc (by have := Hb4.out.size; omega) _⟩
      · rw [if_neg hok] at Hs
        have hokb : Dom.withOk lv b (k : Int) r1 = false := by simpa using hok
        rw [hokb]
        go_wp2_with fail
        go_ret
        rw [Hs.out]
        exact ints_none Hb4.out
    · have hrb : (r2 != 0) = true := by simp [hr]
      rw [if_neg hr] at Hs
      clear hr
      go_wp2_with fail
      go_ret
      rw [Hs.out]
      exact ints_none Hb3.out
  · rw [if_pos rfl] at Hs
    go_enter Tryz.func89, Tryz.ntmps89
    go_wp2_with fail
    clear s0 s1 s2 s3 s4 q0 q1 q2 q3
    generalize (w.alloc (.cells #[.slice Av nv cv, .int .i64 now, .int .i64 nx, .int .i64 b] 93)).alloc (.cells #[.int .i64 (k : Int), .bool true, .int .i64 op, .int .i64 n, .slice A len cap] 111) = W at *
    refine (all_any B Av nv cv lv now nx b k v W Ho.out (by omega) Hrv2.out HM.out h0 h1 hv).mono ?_
    intro e w1 hp
    obtain ⟨O4, n4, c4, rfl, p2, p3, p4⟩ := hp
    have Hp : Hid (IntsPost w (allL lv b (k : Int) v) (.returned (.slice O4 n4 c4)) w1) := hide (ints_up ⟨O4, n4, c4, rfl, p2, p3, p4⟩ Hb2.out)
    clear p2 p3 p4
    go_wp2_with fail
    go_ret
    rw [Hs.out]
    exact Hp.out
end Go.Proofs.YtbppdalfcldodaaGreat
set_option maxRecDepth 100000
namespace Go.Proofs.YtbppdalfcldodaaGreat
open Go.RowKit Ex
open Go.Sort (grow)
set_option linter.unusedSimpArgs false
set_option linter.unusedVariables false

theorem cross_snoc {ds : List Int} {j : Nat} {d : Int} (h : ds[j]? = some d) (xs : List Int) : crossL (ds.take (j + 1)) xs = crossL (ds.take j) xs ++ xs.map (fun x => x + d) := by
  unfold crossL
  rw [List.take_add_one, h]
  simp
theorem map_snoc {xs : List Int} {i : Nat} {x : Int} (h : xs[i]? = some x) (f : Int → Int) : (xs.take (i + 1)).map f = (xs.take i).map f ++ [f x] := by
  rw [List.take_add_one, h]
  simp
theorem cross_mem {ds xs : List Int} {d x : Int} (hd : d ∈ ds) (hx : x ∈ xs) : x + d ∈ crossL ds xs := by
  unfold crossL
  exact List.mem_flatMap.2 ⟨d, hd, List.mem_map.2 ⟨x, hx, rfl⟩⟩
set_option maxHeartbeats 2000000 in
theorem leads_any (B : Nat) (Av : Option Addr) (nv cv : Nat) (lv : List Dom.V) (now nx b : Int) (sA : Option Addr) (sn sc : Nat) (ss : List ST) (w : World) (ho : OkVars ⟨Av, nv, cv⟩ lv) (hB : B ≤ w.heap.size)
    (hrv : Dom.RV w B Av nv lv) (hrs : Rows SetAt 5 w B ⟨sA, sn, sc⟩ ss) (hM : Dom.mayL lv = 0) (h0 : 0 ≤ b) (h1 : b < Dom.totL lv) (ha : Apart lv ss) (hsn : sn ≤ 6) :
    Calls Tryz.prog 57 #[.agg #[.slice Av nv cv, .int .i64 now, .int .i64 nx, .int .i64 b], .slice sA sn sc] w (IntsPost w (leadsL (stepsL lv now nx b) ss b)) := by
  have hbx : Below w.heap.size w (w.alloc (.cells #[.slice Av nv cv, .int .i64 now, .int .i64 nx, .int .i64 b] 93)) := (Below.refl _ _).alloc (Nat.le_refl _) _
  have Hbox := hide (boxT_new w Av nv cv now nx b 93)
  have hz0 : (w.alloc (.cells #[.slice Av nv cv, .int .i64 now, .int .i64 nx, .int .i64 b] 93)).heap.size = w.heap.size + 1 := by simp
  have Hrv := hide (hrv.below (hbx.mono hB))
  have Hrs := hide (hrs.keep (w' := w.alloc (.cells #[.slice Av nv cv, .int .i64 now, .int .i64 nx, .int .i64 b] 93)) (fun b o y h1 hy => SetAt.keep h1 hy (fun p hp => (hbx.mono hB).cell hp)))
  have Hbx := hide hbx
  have Ho := hide ho
  have HM := hide hM
  have Ha := hide ha
  have Hsl := hide hrs.1
  have ht512 := (Dom.totL_bd lv).2
  have H512 : Hid (∀ k, (leadsL (stepsL lv now nx b) (ss.take k) b).length ≤ 512) := hide (fun k => leads_512 hM (ha.take k))
  have Hmem : Hid (∀ k x, k ≤ ss.length → x ∈ leadsL (stepsL lv now nx b) (ss.take k) b → 0 ≤ x ∧ x < Dom.totL lv) := hide (fun k x hk hx => ((leads_mem hM h0 h1 ha k hk x).1 hx).1)
  clear hbx hrv hrs ho hM ha
  obtain ⟨i0, hi0, hi1, hi2, hi3⟩ := info_parts Dom.info3
  have Hi0 := hide hi0; have Hi1 := hide hi1; have Hi2 := hide hi2; have Hi3 := hide hi3
  clear hi0 hi1 hi2 hi3
  obtain ⟨q0, q1, q2, q3⟩ := Hbox.out
  go_enter Tryz.func57, Tryz.ntmps57
  go_wp2_with fail
  clear q0 q1 q2 q3
  generalize w.alloc (.cells #[.slice Av nv cv, .int .i64 now, .int .i64 nx, .int .i64 b] 93) = W at *
  have HbS := hide ((Below.refl W.heap.size W).alloc (Nat.le_refl _) (.cells #[.int .i64 b] 3))
  have HoS := hide (World.ownsRow_lit (base := W.heap.size) (e := 3) (size := 1) W #[.int .i64 b] 1 (Nat.le_refl _) (by unfold maxLen; omega) rfl)
  have hzW : w.heap.size + 1 ≤ W.heap.size := by omega
  go_loopw [5, 18] (fun ov i wr => ∃ (k n c : Nat) (O : Option Addr), k ≤ sn ∧ i = .int .i64 k ∧ ov = .slice O n c ∧ wr.ownsRow W.heap.size 3 1 (.slice O n c) n (ints (leadsL (stepsL lv now nx b) (ss.take k) b)) ∧ Below W.heap.size W wr) (fun _ i _ => sn - (intOf i).toNat)
  case atStart => exact ⟨0, 1, 1, some ⟨w.heap.size + 1, 0, none⟩, by omega, rfl, rfl, by rw [← hz0]; exact HoS.out, HbS.out⟩
  case round =>
    obtain ⟨k, n, c, O, hk, rfl, rfl, how, hb⟩ := hrel
    have How := hide how
    have Hb := hide hb
    have hzr := hb.size
    clear how hb HbS HoS
    by_cases hlt : k < sn
    · have hlt' : ((k : Int) < (sn : Int)) := by omega
      have hbV := Hb.out.mono (show B ≤ W.heap.size by omega)
      obtain ⟨sb, so, s, eA, hsb, hku, ⟨c0, c1, ⟨eo, en, eA2, el, ec⟩, ⟨c2, c3, c4⟩, ⟨dd, hes⟩⟩⟩ := (Hrs.out.keep (w' := wr) (fun b o y h1 hy => SetAt.keep h1 hy (fun p hp => hbV.cell hp))).at_ (k := k) hlt
      simp only at eA c2 c3 c4 hes
      subst eA
      obtain ⟨a0, a1, _⟩ := Ha.out k s hku
      have Htk : Hid (ss.take (k + 1) = ss.take k ++ [s]) := hide (by rw [List.take_add_one, hku]; rfl)
      obtain ⟨z, p, te⟩ := s
      simp only at c0 c1 hes a0 a1
      obtain ⟨zk, rfl⟩ := Int.eq_ofNat_of_zero_le a0
      have hbA := (Below.refl wr.heap.size wr).alloc (Nat.le_refl _) (.cells #[.int .i64 (zk : Int), .bool p, .int .i64 eo, .int .i64 en, .slice eA2 el ec] 111)
      have Hset := hide (boxS_new wr (zk : Int) p eo en eA2 el ec 111)
      have hzA : (wr.alloc (.cells #[.int .i64 (zk : Int), .bool p, .int .i64 eo, .int .i64 en, .slice eA2 el ec] 111)).heap.size = wr.heap.size + 1 := by simp
      have Hes := hide (hes.below (hbA.mono (by omega)))
      have Hrv1 := hide ((Hrv.out.below hbV).below (hbA.mono (by omega)))
      have Hbox1 := hide ((Hbox.out.below Hb.out (by omega)).below hbA (by omega))
      have Hb1 := hide (Hb.out.trans (hbA.mono hzr))
      have How1 := hide (own_below How.out hbA)
      clear hes hbV hbA
      obtain ⟨s0, s1, s2, s3, s4⟩ := Hset.out
      obtain ⟨q0, q1, q2, q3⟩ := Hbox1.out
      go_wp2_with fail
      clear s0 s1 s2 s3 s4 q0 q1 q2 q3 c0 c1 c2 c3 c4
      generalize wr.alloc (.cells #[.int .i64 (zk : Int), .bool p, .int .i64 eo, .int .i64 en, .slice eA2 el ec] 111) = w1 at *
      refine (steps_any B (Av) nv cv lv now nx b zk p te dd eo en eA2 el ec w1 Ho.out (by omega) Hrv1.out Hes.out HM.out h0 h1 (by omega)).mono ?_
      intro e w2 hp
      obtain ⟨O4, n4, c4, rfl, p2, p3, p4⟩ := hp
      have hz4 := p4.size
      have Hb2 := hide (Hb1.out.trans (p4.mono (by omega)))
      have How2 := hide (own_below How1.out p4)
      have Hds := hide (Dom.own_ri p2)
      have Hxs := hide (Dom.own_ri How2.out)
      have Hcr : Hid (leadsL (stepsL lv now nx b) (ss.take (k + 1)) b = crossL (stepsL lv now nx b ⟨(zk : Int), p, te⟩) (leadsL (stepsL lv now nx b) (ss.take k) b)) := hide (by rw [Htk.out, leads_snoc])
      have Hl1 := hide (H512.out (k + 1))
      have Hm1 : Hid (∀ x ∈ leadsL (stepsL lv now nx b) (ss.take (k + 1)) b, 0 ≤ x ∧ x < Dom.totL lv) := hide (fun x hx => Hmem.out (k + 1) x (by rw [Hsl.out]; exact hlt) hx)
      rw [Hcr.out] at Hl1 Hm1
      have hxn : (leadsL (stepsL lv now nx b) (ss.take k) b).length = n := by have := How2.out.1; simpa [ints] using this
      have hn4 : n4 ≤ 512 := by rw [← p3]; exact steps_len HM.out
      clear p2 p4 Hb1 How1 How Hrv1 Hes Hset Htk
      generalize stepsL lv now nx b ⟨(zk : Int), p, te⟩ = ds at *
      generalize hxs : leadsL (stepsL lv now nx b) (ss.take k) b = xs at *
      rw [cross_len, p3, hxn] at Hl1
      have hw2z : W.heap.size ≤ w2.heap.size := by omega
      go_wp2_with fail
      go_loopw [8, 26] (fun ov i wr => ∃ (j c : Nat) (O : Option Addr), j ≤ n4 ∧ i = .int .i64 j ∧ ov = .slice O (j * n) c ∧ wr.ownsRow w2.heap.size 3 1 (.slice O (j * n) c) (j * n) (ints (crossL (ds.take j) xs)) ∧ Below w2.heap.size w2 wr) (fun _ i _ => n4 - (intOf i).toNat)
      case atStart => exact ⟨0, 0, none, by omega, rfl, by rw [Nat.zero_mul], by rw [Nat.zero_mul]; exact ⟨rfl, .inl ⟨rfl, rfl⟩⟩, Below.refl _ _⟩
      case round =>
        obtain ⟨j, c5, O5, hj, rfl, rfl, how5, hb5⟩ := hrel
        have How5 := hide how5
        have Hb5 := hide hb5
        have hz5 := hb5.size
        clear how5 hb5
        by_cases hlt2 : j < n4
        · have hlt2' : ((j : Int) < (n4 : Int)) := by omega
          obtain ⟨db, dof, d, eD, hdb, hdj, cd⟩ := (Hds.out.below Hb5.out).at_ hlt2
          subst eD
          have Hcs := hide (cross_snoc hdj xs)
          have hdm : d ∈ ds := List.mem_of_getElem? hdj
          have hjn : j * n + n ≤ 512 := by
            have := Nat.mul_le_mul_right n (show j + 1 ≤ n4 by omega)
            rw [Nat.add_mul, Nat.one_mul] at this
            have := Hl1.out
            omega
          go_wp2_with fail
          go_loopw [8, 32] (fun ov i wr => ∃ (q c : Nat) (O : Option Addr), q ≤ n ∧ i = .int .i64 q ∧ ov = .slice O (j * n + q) c ∧ wr.ownsRow w2.heap.size 3 1 (.slice O (j * n + q) c) (j * n + q) (ints (crossL (ds.take j) xs ++ (xs.take q).map (fun x => x + d))) ∧ Below w2.heap.size w2 wr) (fun _ i _ => n - (intOf i).toNat)
          case atStart => exact ⟨0, c5, O5, by omega, rfl, rfl, by simpa using How5.out, Hb5.out⟩
          case round =>
            obtain ⟨q, c6, O6, hq, rfl, rfl, how6, hb6⟩ := hrel
            have How6 := hide how6
            have Hb6 := hide hb6
            have hz6 := hb6.size
            clear how6 hb6
            by_cases hlt3 : q < n
            · have hlt3' : ((q : Int) < (n : Int)) := by omega
              obtain ⟨xb, xo, x, eX, hxb, hxq, cx⟩ := (Hxs.out.below Hb6.out).at_ hlt3
              subst eX
              have Hms := hide (map_snoc hxq (fun x => x + d))
              obtain ⟨r0, r1⟩ := Hm1.out (x + d) (cross_mem hdm (List.mem_of_getElem? hxq))
              have hw1 : wrap64 (x + d) = x + d := Dom.wrap64_mid _ (by omega) (by omega)
              go_wp2_with (at_builtin; (try simp only [hw1]); refine wpList_append_lies _ rfl _ _ _ rfl w2.heap.size 3 i0 _ 1 8 Tryz.underlying32 Hi0.out Hi1.out Hi2.out Hi3.out rfl (by omega) (.slice O6 (j * n + q) c6) (j * n + q) (ints (crossL (ds.take j) xs ++ (xs.take q).map (fun x => x + d))) rfl (How6.out.alloc _) ⟨wr.heap.size, 0, none⟩ 1 1 [.int .i64 (x + d)] rfl rfl (World.news_of_block (cs := #[.int .i64 (x + d)]) (t := 3) (fr := (0, 0)) (heap_alloc_new wr _)) (by simp [Value.oneCell']) (by omega) (by unfold maxLen; omega) (by omega) (by simp; omega) _ rfl ?_; intro g7 cap7 w7 hown7 hgrow7 hat7 hlt7)
              have hb7 : Below w2.heap.size w2 w7 := (Hb6.out.alloc (by omega) _).grown hgrow7 (by simp; omega) (fun j hj => by have := (How6.out.lt j hj).1; omega)
              have Ho7 := hide hown7
              rw [ints_snoc, List.append_assoc, ← Hms.out] at Ho7
              clear hown7 hgrow7 hat7 cx
              go_roundw
              case rel => exact ⟨q + 1, cap7, some ⟨g7, 0, none⟩, by omega, by go_num, rfl, Ho7.out, hb7⟩
              case measure => simp [intOf]; omega
            · have hlt3' : ¬ ((q : Int) < (n : Int)) := by omega
              obtain rfl : q = n := by omega
              have Ho8 := How6
              rw [show xs.take q = xs from by rw [← hxn, List.take_length], ← Hcs.out, show j * q + q = (j + 1) * q by rw [Nat.add_mul, Nat.one_mul]] at Ho8
              go_wp2_with fail
              go_roundw
              case rel => exact ⟨j + 1, c6, O6, by omega, by go_num, by rw [Nat.add_mul, Nat.one_mul], Ho8.out, Hb6.out⟩
              case measure => simp [intOf]; omega
        · have hlt2' : ¬ ((j : Int) < (n4 : Int)) := by omega
          obtain rfl : j = n4 := by omega
          have Ho8 := How5
          rw [show ds.take j = ds from by rw [← p3, List.take_length]] at Ho8
          go_wp2_with fail
          go_roundw
          case rel => exact ⟨k + 1, j * n, c5, O5, by omega, by go_num, rfl, by rw [Hcr.out]; exact own_base0 Ho8.out hw2z, Hb2.out.trans (Hb5.out.mono hw2z)⟩
          case measure => simp [intOf]; omega
    · have hlt' : ¬ ((k : Int) < (sn : Int)) := by omega
      obtain rfl : k = sn := by omega
      go_wp2_with fail
      go_ret
      have how := How.out
      have e : ss.take k = ss := by have := Hsl.out; rw [← this, List.take_length]
      rw [e] at how
      exact ⟨O, n, c, rfl, own_base0 how (by omega), by have := how.1; simpa [ints] using this, Hbx.out.trans (Hb.out.mono (by omega))⟩
end Go.Proofs.YtbppdalfcldodaaGreat
