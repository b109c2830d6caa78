/- The walk of the reference's typed. The walks of the reference's Sort and Needs. The walk of the program's join: the sort of a node out of its children's sorts. The walk of the program's find: the sort of a valid expression. The walks of the program's mayRead, Of and Needs. -/
import Derived.Test.YtbppdalfcldodaaGreatGReads
import Derived.Test.YtbppdalfcldodaaGreatGRef
namespace Go.Proofs.YtbppdalfcldodaaGreat
open Go.RowKit Ex
set_option linter.unusedSimpArgs false
set_option linter.unusedVariables false

def tyN (l : List Dom.V) (op n : Int) (ss : List Int) : Int × Int :=
  if op = 1 then (2, 0) else if op = 2 then (1, 0)
  else if op = 3 ∨ op = 4 then (if (l.length : Int) ≤ n then (0, 3) else (((l[n.toNat]?).map Dom.V.srt).getD 0, 0))
  else if op = 5 then (if ss.getD 0 0 = 1 then (1, 0) else (0, 4))
  else if op = 6 ∨ op = 7 ∨ op = 8 then (if ss.getD 0 0 = 1 ∧ ss.getD 1 0 = 1 then (1, 0) else (0, 4))
  else if op = 9 then (if ss.getD 0 0 = ss.getD 1 0 then (1, 0) else (0, 4))
  else if op = 15 then (if ss.getD 0 0 = 1 ∧ ss.getD 1 0 = ss.getD 2 0 then (ss.getD 1 0, 0) else (0, 4))
  else if ss.getD 0 0 = 2 ∧ ss.getD 1 0 = 2 then (if op = 10 ∨ op = 11 then (1, 0) else (2, 0)) else (0, 4)
mutual
def tyT (l : List Dom.V) : T → Int × Int
  | .mk op n ks => if (tyK l ks).2 = 0 then tyN l op n (tyK l ks).1 else (0, (tyK l ks).2)
def tyK (l : List Dom.V) : List T → List Int × Int
  | [] => ([], 0)
  | k :: r => if (tyT l k).2 = 0 then ((tyT l k).1 :: (tyK l r).1, (tyK l r).2) else ([], (tyT l k).2)
end
theorem tyT_eq (l : List Dom.V) (t : T) : tyT l t = if (tyK l t.kids).2 = 0 then tyN l t.op t.n (tyK l t.kids).1 else (0, (tyK l t.kids).2) := by cases t; rw [tyT]; rfl
theorem ret_pair {a b : Int} {p : Int × Int} (h : p = (a, b)) : Ending.returned (.tuple #[.int .i64 a, .int .i64 b]) = .returned (.tuple #[.int .i64 p.1, .int .i64 p.2]) := by rw [h]
def s3V (pre : List Int) : Nat → Value := fun i => .int .i64 (pre.getD i 0)
theorem s3_new (w : World) : (w.alloc (.cells #[.int .i64 0, .int .i64 0, .int .i64 0] 149)).rowIs w.heap.size 149 3 (s3V []) :=
  World.rowIs_alloc w _ 149 _ (fun i hi => by
    have h : i = 0 ∨ i = 1 ∨ i = 2 := by simp at hi; omega
    rcases h with rfl | rfl | rfl <;> rfl)
theorem s3_set {w : World} {g : Nat} {pre : List Int} (h : w.rowIs g 149 3 (s3V pre)) (x : Int) {k : Nat} (hk : pre.length = k) : (w.setCell ⟨g, k, none⟩ (.int .i64 x)).rowIs g 149 3 (s3V (pre ++ [x])) :=
  (h.set k (.int .i64 x)).congr (fun i hi => by
    by_cases e : i = k
    · rw [if_pos e, e, ← hk]; simp [s3V, List.getD]
    · rw [if_neg e]
      simp only [s3V, List.getD]
      by_cases hl : i < k
      · rw [List.getElem?_append_left (by omega)]
      · rw [List.getElem?_append_right (by omega), List.getElem?_eq_none (by omega : pre.length ≤ i), List.getElem?_eq_none (by simp; omega)])
theorem sound_op {t : T} (h : sound t = true) : 1 ≤ t.op ∧ t.op ≤ 15 ∧ t.kids.length ≤ 3 := by
  have h2 : (t.kids.length : Int) = kidsOf t.op := by
    rw [sound_eq, nodeB_eq, Bool.and_eq_true, Bool.and_eq_true] at h
    simpa using h.1.1
  unfold kidsOf at h2
  split at h2
  · omega
  · split at h2
    · omega
    · split at h2
      · omega
      · split at h2 <;> omega

set_option maxRecDepth 100000 in
set_option maxHeartbeats 40000000 in
theorem rtyped_any (B : Nat) (Av : Option Addr) (nv cv : Nat) (lv : List Dom.V) (hnv : nv ≤ maxLen) : ∀ (d : Nat) (op n : Int) (A : Option Addr) (len cap : Nat) (t : T) (w : World), B ≤ w.heap.size → RE w B d op n A len cap t → sound t = true → Dom.RV w B Av nv lv →
    Calls Tryz.prog 94 #[.slice Av nv cv, .agg #[.int .i64 op, .int .i64 n, .slice A len cap]] w fun e w' => e = .returned (.tuple #[.int .i64 (tyT lv t).1, .int .i64 (tyT lv t).2]) ∧ Below w.heap.size w w' := by
  intro d
  induction d with
  | zero => intro op n A len cap t w hB h; exact absurd h id
  | succ d ih =>
    intro op n A len cap t w hB hre hsd hrv
    have IH := hide ih; clear ih
    have Hre := hide hre
    have Hrv := hide hrv
    have Hnl := hide hrv.1
    obtain ⟨hx1, hx2, hlen, hcap, hmx, hx6⟩ := hre
    unfold maxLen at hmx hnv
    have Hlen := hide hlen
    have Hsd := hide hsd
    obtain ⟨ho1, ho2, hl3⟩ := sound_op hsd
    rw [hx1] at ho1 ho2
    rw [hlen] at hl3
    have Hty : Hid (tyT lv t = if (tyK lv t.kids).2 = 0 then tyN lv op n (tyK lv t.kids).1 else (0, (tyK lv t.kids).2)) := hide (by rw [tyT_eq, hx1, hx2])
    have Hnn : Hid ((op = 3 ∨ op = 4) → 0 ≤ n ∧ n < 6) := hide (fun ho => by
      have h := sound_n (op := op) hsd ho hx1
      rw [hx2] at h; exact h)
    clear hlen hx1 hx2 hx6 hsd hrv
    have hbB : Below w.heap.size w ((w.alloc (.cells #[.int .i64 op, .int .i64 n, .slice A len cap] 25)).alloc (.cells #[.int .i64 0, .int .i64 0, .int .i64 0] 149)) := ((Below.refl _ _).alloc (Nat.le_refl _) _).alloc (by simp) _
    have Hrow0 := s3_new (w.alloc (.cells #[.int .i64 op, .int .i64 n, .slice A len cap] 25))
    have hzA : (w.alloc (.cells #[.int .i64 op, .int .i64 n, .slice A len cap] 25)).heap.size = w.heap.size + 1 := by simp
    rw [hzA] at Hrow0
    have Hrow := hide Hrow0
    have hbox := (box_new w op n A len cap 25).below ((Below.refl (w.heap.size + 1) (w.alloc (.cells #[.int .i64 op, .int .i64 n, .slice A len cap] 25))).alloc (by simp) (.cells #[.int .i64 0, .int .i64 0, .int .i64 0] 149)) (by omega)
    have Hbox := hide hbox
    have hzB : ((w.alloc (.cells #[.int .i64 op, .int .i64 n, .slice A len cap] 25)).alloc (.cells #[.int .i64 0, .int .i64 0, .int .i64 0] 149)).heap.size = w.heap.size + 2 := by simp
    have HbB := hide hbB
    clear hbB Hrow0 hzA
    obtain ⟨f0, f1, f2⟩ := hbox
    go_enter Tryz.func94, Tryz.ntmps94
    go_wp2_with fail
    clear f0 f1 f2
    generalize (w.alloc (.cells #[.int .i64 op, .int .i64 n, .slice A len cap] 25)).alloc (.cells #[.int .i64 0, .int .i64 0, .int .i64 0] 149) = W at *
    go_loopw [14] (fun i wr => ∃ (k : Nat) (pre : List Int), k ≤ len ∧ i = .int .i64 k ∧ pre.length = k ∧ Hid ((tyK lv t.kids).2 = (tyK lv (t.kids.drop k)).2 ∧ ((tyK lv (t.kids.drop k)).2 = 0 → (tyK lv t.kids).1 = pre ++ (tyK lv (t.kids.drop k)).1)) ∧ wr.rowIs (w.heap.size + 1) 149 3 (s3V pre) ∧ Onl (w.heap.size + 1) W wr) (fun i _ => len - (intOf i).toNat)
    case atStart => exact ⟨0, [], by omega, rfl, rfl, hide ⟨rfl, fun _ => rfl⟩, Hrow.out, Onl.refl _ _⟩
    case round =>
      obtain ⟨k, pre, hk, rfl, hpl, HT, hrw, hon⟩ := hrel
      have Hrw := hide hrw
      have Hon := hide hon
      have hzr := hon.size
      have Hbw := hide (HbB.out.trans (hon.below (B := w.heap.size) (by omega) (by omega)))
      clear hrw hon
      by_cases hlt : k < len
      · have hlt' : ((k : Int) < (len : Int)) := by omega
        obtain ⟨b, off, u, op2, n2, A2, l2, c2, rfl, hbB2, hku, ⟨c0, c1, cs⟩, hre2⟩ := (Hre.out.below (Hbw.out.mono hB)).at_ hlt
        have Hsu := hide (soundK_at _ k u (sound_kids Hsd.out) hku)
        have Hdr : Hid (tyK lv (t.kids.drop k) = if (tyT lv u).2 = 0 then ((tyT lv u).1 :: (tyK lv (t.kids.drop (k + 1))).1, (tyK lv (t.kids.drop (k + 1))).2) else ([], (tyT lv u).2)) := hide (by rw [drop_at hku, tyK])
        clear hku
        have Hre3 := hide (hre2.below ((Below.refl B wr).alloc (by omega) (.cells #[.int .i64 op2, .int .i64 n2, .slice A2 l2 c2] 25)))
        have Hrv3 := hide ((Hrv.out.below (Hbw.out.mono hB)).below ((Below.refl B wr).alloc (by omega) (.cells #[.int .i64 op2, .int .i64 n2, .slice A2 l2 c2] 25)))
        clear hre2
        have hbz : B ≤ (wr.alloc (.cells #[.int .i64 op2, .int .i64 n2, .slice A2 l2 c2] 25)).heap.size := by simp; omega
        have hzk : (wr.alloc (.cells #[.int .i64 op2, .int .i64 n2, .slice A2 l2 c2] 25)).heap.size = wr.heap.size + 1 := by simp
        have Hrw2 := hide (Hrw.out.alloc (.cells #[.int .i64 op2, .int .i64 n2, .slice A2 l2 c2] 25))
        have Hon2 := hide (Hon.out.alloc (.cells #[.int .i64 op2, .int .i64 n2, .slice A2 l2 c2] 25))
        go_wp2_with fail
        refine (IH.out op2 n2 A2 l2 c2 u _ hbz Hre3.out Hsu.out Hrv3.out).mono ?_
        rintro e w3 ⟨rfl, hb3⟩
        have hz3 := hb3.size
        have Hrw3 := hide (Hrw2.out.of_block (hb3.block _ (by omega)))
        have Hon3 : Hid (Onl (w.heap.size + 1) W w3) := hide (Hon2.out.trans ⟨hb3.os, hb3.tape, hb3.output, hb3.size, fun i hi _ => hb3.block i hi⟩)
        clear hb3 c0 c1 cs Hre3 Hrv3 Hrw2 Hon2 hbz
        generalize tyT lv u = r at *
        obtain ⟨rx, re⟩ := r
        simp only at Hdr ⊢
        by_cases he : re = 0
        · have heb : (re != 0) = false := by simp [he]
          have HT2 : Hid ((tyK lv t.kids).2 = (tyK lv (t.kids.drop (k + 1))).2 ∧ ((tyK lv (t.kids.drop (k + 1))).2 = 0 → (tyK lv t.kids).1 = (pre ++ [rx]) ++ (tyK lv (t.kids.drop (k + 1))).1)) := hide (by
            have h := Hdr.out
            rw [if_pos he] at h
            have h2 := HT.out
            rw [h] at h2
            refine ⟨h2.1, fun h3 => ?_⟩
            rw [h2.2 h3]; simp)
          obtain ⟨v0, hv0⟩ : ∃ v, w3.cell? ⟨w.heap.size + 1, k, none⟩ = some v := ⟨_, Hrw3.out.cell (by omega)⟩
          have hfz := Hrw3.out.frozen k
          have Hset := hide (s3_set Hrw3.out rx hpl)
          have Hon4 := hide (Hon3.out.set k (.int .i64 rx))
          have hk3 : (k : Int) < 3 := by omega
          clear he Hdr
          go_wp2_with fail
          go_roundw
          case rel => exact ⟨k + 1, pre ++ [rx], by omega, by go_num, by simp [hpl], HT2, Hset.out, Hon4.out⟩
          case measure => simp [intOf]; omega
        · have heb : (re != 0) = true := by simp [he]
          have Hf : Hid (tyT lv t = (0, re)) := hide (by
            have h := Hdr.out
            rw [if_neg he] at h
            have h2 := HT.out
            rw [h] at h2
            rw [Hty.out, if_neg (by rw [h2.1]; exact he), h2.1])
          have Hbf := hide (HbB.out.trans (Hon3.out.below (B := w.heap.size) (by omega) (by omega)))
          clear he
          go_wp2_with fail
          go_ret2
          exact ⟨ret_pair Hf.out, Hbf.out⟩
      · have hlt' : ¬ ((k : Int) < (len : Int)) := by omega
        have Hf : Hid (tyT lv t = tyN lv op n pre) := hide (by
          have h : tyK lv (t.kids.drop k) = ([], 0) := by rw [List.drop_of_length_le (by rw [Hlen.out]; omega), tyK]
          have h2 := HT.out
          rw [h] at h2
          rw [Hty.out, if_pos h2.1, h2.2 rfl, List.append_nil])
        have hgb : w.heap.size ≠ w.heap.size + 1 := by omega
        have f0 := (Hon.out.cell (p := ⟨w.heap.size, 0, none⟩) (by show w.heap.size < W.heap.size; omega) (by exact hgb)).trans Hbox.out.1
        have f1 := (Hon.out.cell (p := ⟨w.heap.size, 1, none⟩) (by show w.heap.size < W.heap.size; omega) (by exact hgb)).trans Hbox.out.2.1
        have f2 := (Hon.out.cell (p := ⟨w.heap.size, 2, none⟩) (by show w.heap.size < W.heap.size; omega) (by exact hgb)).trans Hbox.out.2.2
        have s0 : wr.cell? ⟨w.heap.size + 1, 0, none⟩ = some (.int .i64 (pre.getD 0 0)) := Hrw.out.cell (i := 0) (by omega)
        have s1 : wr.cell? ⟨w.heap.size + 1, 1, none⟩ = some (.int .i64 (pre.getD 1 0)) := Hrw.out.cell (i := 1) (by omega)
        have s2 : wr.cell? ⟨w.heap.size + 1, 2, none⟩ = some (.int .i64 (pre.getD 2 0)) := Hrw.out.cell (i := 2) (by omega)
        have Hvr := hide (Hrv.out.below (Hbw.out.mono hB))
        clear hgb HT Hty Hrw Hon Hbox HbB hpl Hre Hlen Hsd hlt Hrow Hrv
        unfold tyN at Hf
        generalize pre.getD 0 0 = v0 at *
        generalize pre.getD 1 0 = v1 at *
        generalize pre.getD 2 0 = v2 at *
        clear pre
        have hop : op = 1 ∨ op = 2 ∨ op = 3 ∨ op = 4 ∨ op = 5 ∨ op = 6 ∨ op = 7 ∨ op = 8 ∨ op = 9 ∨ op = 10 ∨ op = 11 ∨ op = 12 ∨ op = 13 ∨ op = 14 ∨ op = 15 := by omega
        clear ho1 ho2
        rcases hop with rfl | rfl | rfl | rfl | rfl | rfl | rfl | rfl | rfl | rfl | rfl | rfl | rfl | rfl | rfl
        · have HF : Hid (tyT lv t = (2, 0)) := hide (Hf.out.trans (by simp))
          clear Hf
          go_wp2_with fail
          go_ret2
          exact ⟨ret_pair HF.out, Hbw.out⟩
        · have HF : Hid (tyT lv t = (1, 0)) := hide (Hf.out.trans (by simp))
          clear Hf
          go_wp2_with fail
          go_ret2
          exact ⟨ret_pair HF.out, Hbw.out⟩
        · obtain ⟨n0, n6⟩ := Hnn.out (by omega)
          obtain ⟨q, rfl⟩ := Int.eq_ofNat_of_zero_le n0
          by_cases hn : nv ≤ q
          · have hnb : decide ((nv : Int) ≤ (q : Int)) = true := by simp; omega
            have hnc : decide (nv ≤ q) = true := by simp; omega
            have HF : Hid (tyT lv t = (0, 3)) := hide (Hf.out.trans (by simp [Hnl.out, hn]))
            clear Hf hn
            go_wp2_with fail
            go_ret2
            exact ⟨ret_pair HF.out, Hbw.out⟩
          · have hnb : decide ((nv : Int) ≤ (q : Int)) = false := by simp; omega
            have hnc : decide (nv ≤ q) = false := by simp; omega
            obtain ⟨b, off, v, rfl, hvb, hvq, g0, g1, g2, g3, g4⟩ := Hvr.out.at_ (k := q) (by omega)
            have hqn : (q : Int) < (nv : Int) := by omega
            have HF : Hid (tyT lv t = (v.srt, 0)) := hide (Hf.out.trans (by simp [Hnl.out, hn, hvq]))
            clear Hf hn hvq
            go_wp2_with fail
            go_ret2
            exact ⟨ret_pair HF.out, Hbw.out⟩
        · obtain ⟨n0, n6⟩ := Hnn.out (by omega)
          obtain ⟨q, rfl⟩ := Int.eq_ofNat_of_zero_le n0
          by_cases hn : nv ≤ q
          · have hnb : decide ((nv : Int) ≤ (q : Int)) = true := by simp; omega
            have hnc : decide (nv ≤ q) = true := by simp; omega
            have HF : Hid (tyT lv t = (0, 3)) := hide (Hf.out.trans (by simp [Hnl.out, hn]))
            clear Hf hn
            go_wp2_with fail
            go_ret2
            exact ⟨ret_pair HF.out, Hbw.out⟩
          · have hnb : decide ((nv : Int) ≤ (q : Int)) = false := by simp; omega
            have hnc : decide (nv ≤ q) = false := by simp; omega
            obtain ⟨b, off, v, rfl, hvb, hvq, g0, g1, g2, g3, g4⟩ := Hvr.out.at_ (k := q) (by omega)
            have hqn : (q : Int) < (nv : Int) := by omega
            have HF : Hid (tyT lv t = (v.srt, 0)) := hide (Hf.out.trans (by simp [Hnl.out, hn, hvq]))
            clear Hf hn hvq
            go_wp2_with fail
            go_ret2
            exact ⟨ret_pair HF.out, Hbw.out⟩
        · by_cases h0 : v0 = 1
          · have b0 : (v0 != 1) = false := by simp [h0]
            have HF : Hid (tyT lv t = (1, 0)) := hide (Hf.out.trans (by simp [h0]))
            clear Hf h0
            go_wp2_with fail
            go_ret2
            exact ⟨ret_pair HF.out, Hbw.out⟩
          · have b0 : (v0 != 1) = true := by simp [h0]
            have HF : Hid (tyT lv t = (0, 4)) := hide (Hf.out.trans (by simp [h0]))
            clear Hf h0
            go_wp2_with fail
            go_ret2
            exact ⟨ret_pair HF.out, Hbw.out⟩
        · by_cases h0 : v0 = 1
          · have b0 : (v0 != 1) = false := by simp [h0]
            by_cases h1 : v1 = 1
            · have b1 : (v1 != 1) = false := by simp [h1]
              have HF : Hid (tyT lv t = (1, 0)) := hide (Hf.out.trans (by simp [h0, h1]))
              clear Hf h0 h1
              go_wp2_with fail
              go_ret2
              exact ⟨ret_pair HF.out, Hbw.out⟩
            · have b1 : (v1 != 1) = true := by simp [h1]
              have HF : Hid (tyT lv t = (0, 4)) := hide (Hf.out.trans (by simp [h0, h1]))
              clear Hf h0 h1
              go_wp2_with fail
              go_ret2
              exact ⟨ret_pair HF.out, Hbw.out⟩
          · have b0 : (v0 != 1) = true := by simp [h0]
            have HF : Hid (tyT lv t = (0, 4)) := hide (Hf.out.trans (by simp [h0]))
            clear Hf h0
            go_wp2_with fail
            go_ret2
            exact ⟨ret_pair HF.out, Hbw.out⟩
        · by_cases h0 : v0 = 1
          · have b0 : (v0 != 1) = false := by simp [h0]
            by_cases h1 : v1 = 1
            · have b1 : (v1 != 1) = false := by simp [h1]
              have HF : Hid (tyT lv t = (1, 0)) := hide (Hf.out.trans (by simp [h0, h1]))
              clear Hf h0 h1
              go_wp2_with fail
              go_ret2
              exact ⟨ret_pair HF.out, Hbw.out⟩
            · have b1 : (v1 != 1) = true := by simp [h1]
              have HF : Hid (tyT lv t = (0, 4)) := hide (Hf.out.trans (by simp [h0, h1]))
              clear Hf h0 h1
              go_wp2_with fail
              go_ret2
              exact ⟨ret_pair HF.out, Hbw.out⟩
          · have b0 : (v0 != 1) = true := by simp [h0]
            have HF : Hid (tyT lv t = (0, 4)) := hide (Hf.out.trans (by simp [h0]))
            clear Hf h0
            go_wp2_with fail
            go_ret2
            exact ⟨ret_pair HF.out, Hbw.out⟩
        · by_cases h0 : v0 = 1
          · have b0 : (v0 != 1) = false := by simp [h0]
            by_cases h1 : v1 = 1
            · have b1 : (v1 != 1) = false := by simp [h1]
              have HF : Hid (tyT lv t = (1, 0)) := hide (Hf.out.trans (by simp [h0, h1]))
              clear Hf h0 h1
              go_wp2_with fail
              go_ret2
              exact ⟨ret_pair HF.out, Hbw.out⟩
            · have b1 : (v1 != 1) = true := by simp [h1]
              have HF : Hid (tyT lv t = (0, 4)) := hide (Hf.out.trans (by simp [h0, h1]))
              clear Hf h0 h1
              go_wp2_with fail
              go_ret2
              exact ⟨ret_pair HF.out, Hbw.out⟩
          · have b0 : (v0 != 1) = true := by simp [h0]
            have HF : Hid (tyT lv t = (0, 4)) := hide (Hf.out.trans (by simp [h0]))
            clear Hf h0
            go_wp2_with fail
            go_ret2
            exact ⟨ret_pair HF.out, Hbw.out⟩
        · by_cases h0 : v0 = v1
          · have b0 : (v0 != v1) = false := by simp [h0]
            have HF : Hid (tyT lv t = (1, 0)) := hide (Hf.out.trans (by simp [h0]))
            clear Hf h0
            go_wp2_with fail
            go_ret2
            exact ⟨ret_pair HF.out, Hbw.out⟩
          · have b0 : (v0 != v1) = true := by simp [h0]
            have HF : Hid (tyT lv t = (0, 4)) := hide (Hf.out.trans (by simp [h0]))
            clear Hf h0
            go_wp2_with fail
            go_ret2
            exact ⟨ret_pair HF.out, Hbw.out⟩
        · by_cases h0 : v0 = 2
          · have b0 : (v0 != 2) = false := by simp [h0]
            by_cases h1 : v1 = 2
            · have b1 : (v1 != 2) = false := by simp [h1]
              have HF : Hid (tyT lv t = (1, 0)) := hide (Hf.out.trans (by simp [h0, h1]))
              clear Hf h0 h1
              go_wp2_with fail
              go_ret2
              exact ⟨ret_pair HF.out, Hbw.out⟩
            · have b1 : (v1 != 2) = true := by simp [h1]
              have HF : Hid (tyT lv t = (0, 4)) := hide (Hf.out.trans (by simp [h0, h1]))
              clear Hf h0 h1
              go_wp2_with fail
              go_ret2
              exact ⟨ret_pair HF.out, Hbw.out⟩
          · have b0 : (v0 != 2) = true := by simp [h0]
            have HF : Hid (tyT lv t = (0, 4)) := hide (Hf.out.trans (by simp [h0]))
            clear Hf h0
            go_wp2_with fail
            go_ret2
            exact ⟨ret_pair HF.out, Hbw.out⟩
        · by_cases h0 : v0 = 2
          · have b0 : (v0 != 2) = false := by simp [h0]
            by_cases h1 : v1 = 2
            · have b1 : (v1 != 2) = false := by simp [h1]
              have HF : Hid (tyT lv t = (1, 0)) := hide (Hf.out.trans (by simp [h0, h1]))
              clear Hf h0 h1
              go_wp2_with fail
              go_ret2
              exact ⟨ret_pair HF.out, Hbw.out⟩
            · have b1 : (v1 != 2) = true := by simp [h1]
              have HF : Hid (tyT lv t = (0, 4)) := hide (Hf.out.trans (by simp [h0, h1]))
              clear Hf h0 h1
              go_wp2_with fail
              go_ret2
              exact ⟨ret_pair HF.out, Hbw.out⟩
          · have b0 : (v0 != 2) = true := by simp [h0]
            have HF : Hid (tyT lv t = (0, 4)) := hide (Hf.out.trans (by simp [h0]))
            clear Hf h0
            go_wp2_with fail
            go_ret2
            exact ⟨ret_pair HF.out, Hbw.out⟩
        · by_cases h0 : v0 = 2
          · have b0 : (v0 != 2) = false := by simp [h0]
            by_cases h1 : v1 = 2
            · have b1 : (v1 != 2) = false := by simp [h1]
              have HF : Hid (tyT lv t = (2, 0)) := hide (Hf.out.trans (by simp [h0, h1]))
              clear Hf h0 h1
              go_wp2_with fail
              go_ret2
              exact ⟨ret_pair HF.out, Hbw.out⟩
            · have b1 : (v1 != 2) = true := by simp [h1]
              have HF : Hid (tyT lv t = (0, 4)) := hide (Hf.out.trans (by simp [h0, h1]))
              clear Hf h0 h1
              go_wp2_with fail
              go_ret2
              exact ⟨ret_pair HF.out, Hbw.out⟩
          · have b0 : (v0 != 2) = true := by simp [h0]
            have HF : Hid (tyT lv t = (0, 4)) := hide (Hf.out.trans (by simp [h0]))
            clear Hf h0
            go_wp2_with fail
            go_ret2
            exact ⟨ret_pair HF.out, Hbw.out⟩
        · by_cases h0 : v0 = 2
          · have b0 : (v0 != 2) = false := by simp [h0]
            by_cases h1 : v1 = 2
            · have b1 : (v1 != 2) = false := by simp [h1]
              have HF : Hid (tyT lv t = (2, 0)) := hide (Hf.out.trans (by simp [h0, h1]))
              clear Hf h0 h1
              go_wp2_with fail
              go_ret2
              exact ⟨ret_pair HF.out, Hbw.out⟩
            · have b1 : (v1 != 2) = true := by simp [h1]
              have HF : Hid (tyT lv t = (0, 4)) := hide (Hf.out.trans (by simp [h0, h1]))
              clear Hf h0 h1
              go_wp2_with fail
              go_ret2
              exact ⟨ret_pair HF.out, Hbw.out⟩
          · have b0 : (v0 != 2) = true := by simp [h0]
            have HF : Hid (tyT lv t = (0, 4)) := hide (Hf.out.trans (by simp [h0]))
            clear Hf h0
            go_wp2_with fail
            go_ret2
            exact ⟨ret_pair HF.out, Hbw.out⟩
        · by_cases h0 : v0 = 2
          · have b0 : (v0 != 2) = false := by simp [h0]
            by_cases h1 : v1 = 2
            · have b1 : (v1 != 2) = false := by simp [h1]
              have HF : Hid (tyT lv t = (2, 0)) := hide (Hf.out.trans (by simp [h0, h1]))
              clear Hf h0 h1
              go_wp2_with fail
              go_ret2
              exact ⟨ret_pair HF.out, Hbw.out⟩
            · have b1 : (v1 != 2) = true := by simp [h1]
              have HF : Hid (tyT lv t = (0, 4)) := hide (Hf.out.trans (by simp [h0, h1]))
              clear Hf h0 h1
              go_wp2_with fail
              go_ret2
              exact ⟨ret_pair HF.out, Hbw.out⟩
          · have b0 : (v0 != 2) = true := by simp [h0]
            have HF : Hid (tyT lv t = (0, 4)) := hide (Hf.out.trans (by simp [h0]))
            clear Hf h0
            go_wp2_with fail
            go_ret2
            exact ⟨ret_pair HF.out, Hbw.out⟩
        · by_cases h0 : v0 = 1
          · have b0 : (v0 != 1) = false := by simp [h0]
            by_cases h1 : v1 = v2
            · have b1 : (v1 != v2) = false := by simp [h1]
              have HF : Hid (tyT lv t = (v1, 0)) := hide (Hf.out.trans (by simp [h0, h1]))
              clear Hf h0 h1
              go_wp2_with fail
              go_ret2
              exact ⟨ret_pair HF.out, Hbw.out⟩
            · have b1 : (v1 != v2) = true := by simp [h1]
              have HF : Hid (tyT lv t = (0, 4)) := hide (Hf.out.trans (by simp [h0, h1]))
              clear Hf h0 h1
              go_wp2_with fail
              go_ret2
              exact ⟨ret_pair HF.out, Hbw.out⟩
          · have b0 : (v0 != 1) = true := by simp [h0]
            have HF : Hid (tyT lv t = (0, 4)) := hide (Hf.out.trans (by simp [h0]))
            clear Hf h0
            go_wp2_with fail
            go_ret2
            exact ⟨ret_pair HF.out, Hbw.out⟩
end Go.Proofs.YtbppdalfcldodaaGreat
namespace Go.Proofs.YtbppdalfcldodaaGreat
open Go.RowKit Ex
set_option linter.unusedSimpArgs false
set_option linter.unusedVariables false

def sortE (l : List Dom.V) (t : T) : Int × Int := if Dom.mayL l = 0 then (if mayE t = 0 then tyT l t else (0, mayE t)) else (0, Dom.mayL l)

set_option maxHeartbeats 1000000 in
theorem rsort_any (B : Nat) (Av : Option Addr) (nv cv : Nat) (lv : List Dom.V) (d : Nat) (op n : Int) (A : Option Addr) (len cap : Nat) (t : T) (w : World) (hnv : nv ≤ maxLen) (hnc : nv ≤ cv) (hcv : cv ≤ maxLen) (hB : B ≤ w.heap.size) (hre : RE w B d op n A len cap t) (hrv : Dom.RV w B Av nv lv) (hnm : ∀ v ∈ lv, v.nm.size ≤ maxLen) :
    Calls Tryz.prog 64 #[.slice Av nv cv, .agg #[.int .i64 op, .int .i64 n, .slice A len cap]] w fun e w' => e = .returned (.tuple #[.int .i64 (sortE lv t).1, .int .i64 (sortE lv t).2]) ∧ Below w.heap.size w w' := by
  have hbx : Below w.heap.size w (w.alloc (.cells #[.int .i64 op, .int .i64 n, .slice A len cap] 25)) := (Below.refl _ _).alloc (Nat.le_refl _) _
  have Hre := hide (hre.below (hbx.mono hB))
  have Hrv := hide (hrv.below (hbx.mono hB))
  have Hbox := hide (box_new w op n A len cap 25)
  have hz0 : (w.alloc (.cells #[.int .i64 op, .int .i64 n, .slice A len cap] 25)).heap.size = w.heap.size + 1 := by simp
  have Hbx := hide hbx
  clear hre hrv hbx
  have Hs : Hid (sortE lv t = if Dom.mayL lv = 0 then (if mayE t = 0 then tyT lv t else (0, mayE t)) else (0, Dom.mayL lv)) := hide rfl
  go_enter Tryz.func64, Tryz.ntmps64
  go_wp2_with fail
  generalize w.alloc (.cells #[.int .i64 op, .int .i64 n, .slice A len cap] 25) = W at *
  refine (Dom.rmay_any Av nv cv B lv W hnv hnc hcv (by omega) Hrv.out hnm).mono ?_
  rintro e w1 ⟨rfl, hb1⟩
  have hz1 := hb1.size
  have Hb1 := hide (Hbx.out.trans (hb1.mono (by omega)))
  have Hre1 := hide (Hre.out.below (hb1.mono (by omega)))
  have Hrv1 := hide (Hrv.out.below (hb1.mono (by omega)))
  obtain ⟨f0, f1, f2⟩ := Hbox.out.below hb1 (by omega)
  have Hbox1 := hide (Hbox.out.below hb1 (by omega))
  clear hb1 Hre Hrv Hbox Hbx
  by_cases hm : Dom.mayL lv = 0
  · have hmb : (Dom.mayL lv != 0) = false := by simp [hm]
    rw [if_pos hm] at Hs
    clear hm
    go_wp2_with fail
    refine (rmay_any B d op n A len cap t w1 (by omega) Hre1.out).mono ?_
    rintro e w2 ⟨rfl, hb2⟩
    have hz2 := hb2.size
    have Hb2 := hide (Hb1.out.trans (hb2.mono (by omega)))
    have Hre2 := hide (Hre1.out.below (hb2.mono (by omega)))
    have Hrv2 := hide (Hrv1.out.below (hb2.mono (by omega)))
    clear f0 f1 f2
    obtain ⟨f0, f1, f2⟩ := Hbox1.out.below hb2 (by omega)
    clear hb2 Hre1 Hrv1 Hbox1
    by_cases he : mayE t = 0
    · have heb : (mayE t != 0) = false := by simp [he]
      have Hsd := hide (may_sound he)
      rw [if_pos he] at Hs
      clear he
      go_wp2_with fail
      refine (rtyped_any B Av nv cv lv hnv d op n A len cap t w2 (by omega) Hre2.out Hsd.out Hrv2.out).mono ?_
      rintro e w3 ⟨rfl, hb3⟩
      have Hb3 := hide (Hb2.out.trans (hb3.mono (by omega)))
      clear hb3 f0 f1 f2
      generalize tyT lv t = r at *
      obtain ⟨r1, r2⟩ := r
      simp only
      go_wp2_with fail
      go_ret2
      exact ⟨ret_pair Hs.out, Hb3.out⟩
    · have heb : (mayE t != 0) = true := by simp [he]
      rw [if_neg he] at Hs
      clear he
      go_wp2_with fail
      go_ret2
      exact ⟨ret_pair Hs.out, Hb2.out⟩
  · have hmb : (Dom.mayL lv != 0) = true := by simp [hm]
    rw [if_neg hm] at Hs
    clear hm
    go_wp2_with fail
    go_ret2
    exact ⟨ret_pair Hs.out, Hb1.out⟩

/- what an expression of a sort reads is there -/
mutual
theorem ty_reads (l : List Dom.V) : ∀ (t : T) (op : Int) (i : Nat), op = 3 ∨ op = 4 → (tyT l t).2 = 0 → rdT t op i = true → i < l.length
  | .mk o n ks, op, i, ho, h, hr => by
    rw [tyT] at h
    by_cases hk : (tyK l ks).2 = 0
    · rw [if_pos hk] at h
      rw [rdT, Bool.or_eq_true, Bool.and_eq_true] at hr
      rcases hr with ⟨h1, h2⟩ | h3
      · have h1 : o = op := by simpa using h1
        have h2 : n = (i : Int) := by simpa using h2
        unfold tyN at h
        rw [if_neg (by omega), if_neg (by omega), if_pos (by omega)] at h
        by_cases hl : (l.length : Int) ≤ n
        · rw [if_pos hl] at h; simp at h
        · omega
      · exact tyK_reads l ks op i ho hk h3
    · rw [if_neg hk] at h
      exact absurd h hk
theorem tyK_reads (l : List Dom.V) : ∀ (ks : List T) (op : Int) (i : Nat), op = 3 ∨ op = 4 → (tyK l ks).2 = 0 → rdK ks op i = true → i < l.length
  | [], op, i, ho, h, hr => by rw [rdK] at hr; exact absurd hr (by simp)
  | k :: r, op, i, ho, h, hr => by
    rw [tyK] at h
    by_cases hk : (tyT l k).2 = 0
    · rw [if_pos hk] at h
      rw [rdK, Bool.or_eq_true] at hr
      rcases hr with h1 | h2
      · exact ty_reads l k op i ho hk h1
      · exact tyK_reads l r op i ho h h2
    · rw [if_neg hk] at h
      exact absurd h hk
end
theorem pick_mem (F : Nat → Bool) (k : Nat) (x : Int) : x ∈ pickTo F k → ∃ i : Nat, i < k ∧ F i = true ∧ x = (i : Int) := by
  unfold pickTo
  simp only [List.mem_map, List.mem_filter, List.mem_range]
  rintro ⟨i, ⟨h1, h2⟩, rfl⟩
  exact ⟨i, h1, h2, rfl⟩
theorem sort_reads {l : List Dom.V} {t : T} {next : Bool} (h : (sortE l t).2 = 0) {x : Int} (hx : x ∈ readsE t next) : ∃ i : Nat, i < 6 ∧ i < l.length ∧ x = (i : Int) := by
  unfold sortE at h
  by_cases hm : Dom.mayL l = 0
  · rw [if_pos hm] at h
    by_cases he : mayE t = 0
    · rw [if_pos he] at h
      unfold readsE at hx
      rw [if_pos he] at hx
      obtain ⟨i, h6, hr, rfl⟩ := pick_mem _ _ _ hx
      exact ⟨i, h6, ty_reads l t (opOf next) i (by unfold opOf; cases next <;> simp) h hr, rfl⟩
    · rw [if_neg he] at h; exact absurd h he
  · rw [if_neg hm] at h; exact absurd h hm

def envAt (l : List Dom.V) (x : Int) : Bool := ((l[x.toNat]?).map Dom.V.env).getD false
def nextBad (l : List Dom.V) (env sys : Bool) : List Int → Bool
  | [] => false
  | x :: r => (envAt l x && !env || !envAt l x && !sys) || nextBad l env sys r
def nowBad (l : List Dom.V) (now : Bool) : List Int → Bool
  | [] => false
  | x :: r => (!envAt l x && !now) || nowBad l now r
def needE (l : List Dom.V) (t : T) (want : Int) (now env sys : Bool) : Int :=
  if (sortE l t).2 = 0 then (if (sortE l t).1 = want then (if nextBad l env sys (readsE t true) = true then 5 else if nowBad l now (readsE t false) = true then 3 else 0) else 4) else (sortE l t).2
theorem readsE_six (t : T) (next : Bool) : (readsE t next).length ≤ 6 := by
  unfold readsE
  split
  · exact pickTo_len _ _
  · simp

set_option maxRecDepth 100000 in
set_option maxHeartbeats 4000000 in
theorem rneeds_any (B : Nat) (Av : Option Addr) (nv cv : Nat) (lv : List Dom.V) (d : Nat) (op n : Int) (A : Option Addr) (len cap : Nat) (t : T) (want : Int) (now env sys : Bool) (w : World) (hnv : nv ≤ maxLen) (hnc : nv ≤ cv) (hcv : cv ≤ maxLen) (hB : B ≤ w.heap.size) (hre : RE w B d op n A len cap t) (hrv : Dom.RV w B Av nv lv) (hnm : ∀ v ∈ lv, v.nm.size ≤ maxLen) :
    Calls Tryz.prog 31 #[.slice Av nv cv, .agg #[.int .i64 op, .int .i64 n, .slice A len cap], .int .i64 want, .bool now, .bool env, .bool sys] w fun e w' => e = .returned (.int .i64 (needE lv t want now env sys)) ∧ Below w.heap.size w w' := by
  have hbx : Below w.heap.size w (w.alloc (.cells #[.int .i64 op, .int .i64 n, .slice A len cap] 25)) := (Below.refl _ _).alloc (Nat.le_refl _) _
  have Hre := hide (hre.below (hbx.mono hB))
  have Hrv := hide (hrv.below (hbx.mono hB))
  have Hnl := hide hrv.1
  have Hbox := hide (box_new w op n A len cap 25)
  have hz0 : (w.alloc (.cells #[.int .i64 op, .int .i64 n, .slice A len cap] 25)).heap.size = w.heap.size + 1 := by simp
  have Hbx := hide hbx
  have Hnv := hide hnv
  have Hnm := hide hnm
  unfold maxLen at hnv
  clear hre hrv hbx hnm
  have Hs : Hid (needE lv t want now env sys = if (sortE lv t).2 = 0 then (if (sortE lv t).1 = want then (if nextBad lv env sys (readsE t true) = true then 5 else if nowBad lv now (readsE t false) = true then 3 else 0) else 4) else (sortE lv t).2) := hide rfl
  have Hin : Hid (∀ (next : Bool) (x : Int), (sortE lv t).2 = 0 → x ∈ readsE t next → ∃ i : Nat, i < 6 ∧ i < nv ∧ x = (i : Int)) := hide (fun next x h hx => by
    obtain ⟨i, h1, h2, h3⟩ := sort_reads h hx
    exact ⟨i, h1, by rw [← Hnl.out]; exact h2, h3⟩)
  obtain ⟨f0, f1, f2⟩ := Hbox.out
  go_enter Tryz.func31, Tryz.ntmps31
  go_wp2_with fail
  clear f0 f1 f2
  generalize w.alloc (.cells #[.int .i64 op, .int .i64 n, .slice A len cap] 25) = W at *
  refine (rsort_any B Av nv cv lv d op n A len cap t W Hnv.out hnc hcv (by omega) Hre.out Hrv.out Hnm.out).mono ?_
  rintro e w1 ⟨rfl, hb1⟩
  have hz1 := hb1.size
  have Hb1 := hide (Hbx.out.trans (hb1.mono (by omega)))
  have Hre1 := hide (Hre.out.below (hb1.mono (by omega)))
  have Hrv1 := hide (Hrv.out.below (hb1.mono (by omega)))
  have Hbox1 := hide (Hbox.out.below hb1 (by omega))
  clear hb1 Hre Hrv Hbox Hbx
  generalize sortE lv t = r at *
  obtain ⟨r1, r2⟩ := r
  simp only at Hs Hin ⊢
  by_cases h2 : r2 = 0
  · have h2b : (r2 != 0) = false := by simp [h2]
    rw [if_pos h2] at Hs
    have Hin2 : Hid (∀ (next : Bool) (x : Int), x ∈ readsE t next → ∃ i : Nat, i < 6 ∧ i < nv ∧ x = (i : Int)) := hide (fun next x hx => Hin.out next x h2 hx)
    clear h2 Hin
    by_cases h1 : r1 = want
    · have h1b : (r1 != want) = false := by simp [h1]
      rw [if_pos h1] at Hs
      clear h1
      obtain ⟨f0, f1, f2⟩ := Hbox1.out
      go_wp2_with fail
      clear f0 f1 f2
      refine (rReads_any B d op n A len cap t true w1 (by omega) Hre1.out).mono ?_
      rintro e w2 ⟨O, m, c, rfl, hown, hm, hb2⟩
      have hz2 := hb2.size
      have Hb2 := hide (Hb1.out.trans (hb2.mono (by omega)))
      have Hre2 := hide (Hre1.out.below (hb2.mono (by omega)))
      have Hrv2 := hide (Hrv1.out.below (hb2.mono (by omega)))
      have Hbox2 := hide (Hbox1.out.below hb2 (by omega))
      have Hri := hide (own_ri hown)
      have hm6 : m ≤ 6 := by rw [← hm]; exact readsE_six _ _
      have Hm := hide hm
      clear hb2 hown hm Hre1 Hrv1 Hbox1 Hb1
      have Hmem : Hid (∀ x ∈ readsE t true, ∃ i : Nat, i < 6 ∧ i < nv ∧ x = (i : Int)) := hide (Hin2.out true)
      generalize readsE t true = xs at *
      go_wp2_with fail
      go_loopw [34] (fun i wr => ∃ j : Nat, j ≤ m ∧ i = .int .i64 j ∧ Hid (nextBad lv env sys (xs.drop j) = nextBad lv env sys xs) ∧ wr = w2) (fun i _ => m - (intOf i).toNat)
      case atStart => exact ⟨0, by omega, rfl, hide rfl, rfl⟩
      case round =>
        obtain ⟨j, hj, rfl, HB, rfl⟩ := hrel
        by_cases hjl : j < m
        · have hjl' : ((j : Int) < (m : Int)) := by omega
          obtain ⟨bb, bo, x, rfl, hbb, hx, cx⟩ := Hri.out.at_ hjl
          obtain ⟨q, hq6, hqn, rfl⟩ := Hmem.out x (List.mem_of_getElem? hx)
          obtain ⟨vb, vo, v, rfl, hvb, hvq, g0, g1, g2, g3, g4⟩ := Hrv2.out.at_ (k := q) hqn
          have hqn' : (q : Int) < (nv : Int) := by omega
          have Hst : Hid (((v.env && !env || !v.env && !sys) || nextBad lv env sys (xs.drop (j + 1))) = nextBad lv env sys xs) := hide (by
            rw [← HB.out, drop_at hx, nextBad]
            have : envAt lv (q : Int) = v.env := by unfold envAt; simp [hvq]
            rw [this])
          clear hx hvq g0 g2 g3 g4 HB
          cases hve : v.env
          · rw [hve] at g1
            cases sys
            · have Hf : Hid (needE lv t want now env false = 5) := hide (by rw [Hs.out, ← Hst.out, hve]; simp)
              go_wp2_with fail
              go_ret
              exact ⟨ret_int Hf.out.symm, Hb2.out⟩
            · have Hon : Hid (nextBad lv env true (xs.drop (j + 1)) = nextBad lv env true xs) := hide (by rw [← Hst.out, hve]; simp)
              go_wp2_with fail
              go_roundw
              case rel => exact ⟨j + 1, by omega, by go_num, Hon, by first | rfl | trivial⟩
              case measure => simp [intOf]; omega
          · rw [hve] at g1
            cases env
            · have Hf : Hid (needE lv t want now false sys = 5) := hide (by rw [Hs.out, ← Hst.out, hve]; simp)
              go_wp2_with fail
              go_ret
              exact ⟨ret_int Hf.out.symm, Hb2.out⟩
            · have Hon : Hid (nextBad lv true sys (xs.drop (j + 1)) = nextBad lv true sys xs) := hide (by rw [← Hst.out, hve]; simp)
              go_wp2_with fail
              go_roundw
              case rel => exact ⟨j + 1, by omega, by go_num, Hon, by first | rfl | trivial⟩
              case measure => simp [intOf]; omega
        · have hjl' : ¬ ((j : Int) < (m : Int)) := by omega
          have hnb : nextBad lv env sys xs = false := by rw [← HB.out, List.drop_of_length_le (by rw [Hm.out]; omega)]; rfl
          rw [hnb] at Hs
          simp only [Bool.false_eq_true, if_false] at Hs
          clear hnb HB
          obtain ⟨f0, f1, f2⟩ := Hbox2.out
          obtain ⟨wA, rfl⟩ : ∃ wA, wA = wr := ⟨_, rfl⟩
          go_wp2_with fail
          clear f0 f1 f2
          refine (rReads_any B d op n A len cap t false wA (by omega) Hre2.out).mono ?_
          rintro e w3 ⟨O2, m2, c2, rfl, hown, hm, hb3⟩
          have hz3 := hb3.size
          have Hb3 := hide (Hb2.out.trans (hb3.mono (by omega)))
          have Hrv3 := hide (Hrv2.out.below (hb3.mono (by omega)))
          have Hri2 := hide (own_ri hown)
          have hm62 : m2 ≤ 6 := by rw [← hm]; exact readsE_six _ _
          have Hm2 := hide hm
          clear hb3 hown hm Hre2 Hrv2 Hbox2 Hb2 Hmem Hri Hm
          have Hmem : Hid (∀ x ∈ readsE t false, ∃ i : Nat, i < 6 ∧ i < nv ∧ x = (i : Int)) := hide (Hin2.out false)
          generalize readsE t false = ys at *
          go_wp2_with fail
          go_loopw [63] (fun i wr => ∃ j : Nat, j ≤ m2 ∧ i = .int .i64 j ∧ Hid (nowBad lv now (ys.drop j) = nowBad lv now ys) ∧ wr = w3) (fun i _ => m2 - (intOf i).toNat)
          case atStart => exact ⟨0, by omega, rfl, hide rfl, rfl⟩
          case round =>
            obtain ⟨j2, hj2, rfl, HB, rfl⟩ := hrel
            by_cases hjl2 : j2 < m2
            · have hjl2' : ((j2 : Int) < (m2 : Int)) := by omega
              obtain ⟨bb, bo, x, rfl, hbb, hx, cx⟩ := Hri2.out.at_ hjl2
              obtain ⟨q, hq6, hqn, rfl⟩ := Hmem.out x (List.mem_of_getElem? hx)
              obtain ⟨vb, vo, v, rfl, hvb, hvq, g0, g1, g2, g3, g4⟩ := Hrv3.out.at_ (k := q) hqn
              have hqn' : (q : Int) < (nv : Int) := by omega
              have Hst : Hid (((!v.env && !now) || nowBad lv now (ys.drop (j2 + 1))) = nowBad lv now ys) := hide (by
                rw [← HB.out, drop_at hx, nowBad]
                have : envAt lv (q : Int) = v.env := by unfold envAt; simp [hvq]
                rw [this])
              clear hx hvq g0 g2 g3 g4 HB
              cases hve : v.env
              · rw [hve] at g1
                cases now
                · have Hf : Hid (needE lv t want false env sys = 3) := hide (by rw [Hs.out, ← Hst.out, hve]; simp)
                  go_wp2_with fail
                  go_ret
                  exact ⟨ret_int Hf.out.symm, Hb3.out⟩
                · have Hon : Hid (nowBad lv true (ys.drop (j2 + 1)) = nowBad lv true ys) := hide (by rw [← Hst.out, hve]; simp)
                  go_wp2_with fail
                  go_roundw
                  case rel => exact ⟨j2 + 1, by omega, by go_num, Hon, by first | rfl | trivial⟩
                  case measure => simp [intOf]; omega
              · rw [hve] at g1
                have Hon : Hid (nowBad lv now (ys.drop (j2 + 1)) = nowBad lv now ys) := hide (by rw [← Hst.out, hve]; simp)
                go_wp2_with fail
                go_roundw
                case rel => exact ⟨j2 + 1, by omega, by go_num, Hon, by first | rfl | trivial⟩
                case measure => simp [intOf]; omega
            · have hjl2' : ¬ ((j2 : Int) < (m2 : Int)) := by omega
              have Hf : Hid (needE lv t want now env sys = 0) := hide (by
                rw [Hs.out, ← HB.out, List.drop_of_length_le (by rw [Hm2.out]; omega)]; rfl)
              go_wp2_with fail
              go_ret
              exact ⟨ret_int Hf.out.symm, Hb3.out⟩
    · have h1b : (r1 != want) = true := by simp [h1]
      rw [if_neg h1] at Hs
      clear h1
      go_wp2_with fail
      go_ret
      exact ⟨ret_int Hs.out.symm, Hb1.out⟩
  · have h2b : (r2 != 0) = true := by simp [h2]
    rw [if_neg h2] at Hs
    clear h2
    go_wp2_with fail
    go_ret
    exact ⟨ret_int Hs.out.symm, Hb1.out⟩
end Go.Proofs.YtbppdalfcldodaaGreat
namespace Go.Proofs.YtbppdalfcldodaaGreat
open Go.RowKit Ex
set_option linter.unusedSimpArgs false
set_option linter.unusedVariables false

def allEq (nd : Int) : List Int → Bool
  | [] => true
  | x :: r => (x == nd) && allEq nd r
theorem ri_tail {w : World} {B b off n : Nat} {x : Int} {xs : List Int} (h : RI w B (some ⟨b, off, none⟩) (n + 1) (x :: xs)) : RI w B (some ⟨b, off + 1, none⟩) n xs := by
  refine ⟨by have := h.1; simp at this; omega, fun hn => ?_⟩
  obtain ⟨b2, o2, e, hb, hc⟩ := h.2 (by omega)
  injection e with e; injection e with e1 e2
  subst e1; subst e2
  refine ⟨b, off + 1, rfl, hb, fun k v hv => ?_⟩
  have := hc (k + 1) v (by simpa using hv)
  rw [← this]; congr 2; omega

set_option maxRecDepth 100000 in
set_option maxHeartbeats 40000000 in
theorem join_any (B : Nat) (lv : List Dom.V) (nn op : Int) (A : Option Addr) (n c : Nat) (xs : List Int) (w : World) (hB : B ≤ w.heap.size) (ho1 : 1 ≤ op) (ho2 : op ≤ 15) (h3 : op ≠ 3) (h4 : op ≠ 4) (hk : (n : Int) = kidsOf op) (hnc : n ≤ c) (hc : c ≤ maxLen) (hri : RI w B A n xs) :
    Calls Tryz.prog 117 #[.int .i64 op, .slice A n c] w fun e w' => e = .returned (.tuple #[.int .i64 (tyN lv op nn xs).1, .int .i64 (tyN lv op nn xs).2]) ∧ Below w.heap.size w w' := by
  unfold maxLen at hc
  have hop : (op = 2 ∨ op = 5 ∨ op = 6 ∨ op = 7 ∨ op = 8) ∨ (op = 10 ∨ op = 11) ∨ (op = 1 ∨ op = 12 ∨ op = 13 ∨ op = 14) ∨ op = 9 ∨ op = 15 := by omega
  have hxl := hri.1
  have Hri := hide hri
  clear hri
  rcases hop with hop | hop | hop | rfl | rfl
  · have Hr : Hid (tyN lv op nn xs = if allEq 1 xs = true then (1, 0) else (0, 4)) := hide (by
      rcases hop with rfl | rfl | rfl | rfl | rfl <;> simp [kidsOf] at hk <;> rcases xs with _ | ⟨a, _ | ⟨b, _ | ⟨d, r⟩⟩⟩ <;> simp at hxl <;> first | omega | simp [tyN, allEq, List.getD])
    clear ho1 ho2 h3 h4 hk hxl
    rcases hop with rfl | rfl | rfl | rfl | rfl
    all_goals
      go_enter Tryz.func117, Tryz.ntmps117
      go_wp2_with fail
      go_loopw [40] (fun i wr => ∃ k : Nat, k ≤ n ∧ i = .int .i64 k ∧ Hid (allEq 1 (xs.drop k) = allEq 1 xs) ∧ wr = w) (fun i _ => n - (intOf i).toNat)
      case atStart => exact ⟨0, by omega, rfl, hide rfl, rfl⟩
      case round =>
        obtain ⟨k, hk2, rfl, HA, rfl⟩ := hrel
        by_cases hlt : k < n
        · have hlt' : ((k : Int) < (n : Int)) := by omega
          obtain ⟨b1, o1, x, hb1, _, hx, c1⟩ := Hri.out.at_ hlt
          subst hb1
          have Hst : Hid (((x == 1) && allEq 1 (xs.drop (k + 1))) = allEq 1 xs) := hide (by rw [← HA.out, drop_at hx, allEq])
          clear hx HA
          by_cases he : x = 1
          · have heb : (x != 1) = false := by simp [he]
            have Hs2 : Hid (allEq 1 (xs.drop (k + 1)) = allEq 1 xs) := hide (by rw [← Hst.out]; simp [he])
            clear he Hst
            go_wp2_with fail
            go_roundw
            case rel => exact ⟨k + 1, by omega, by go_num, Hs2, by first | rfl | trivial⟩
            case measure => simp [intOf]; omega
          · have heb : (x != 1) = true := by simp [he]
            have Hf : Hid (tyN lv _ nn (xs) = (0, 4)) := hide (by rw [Hr.out, ← Hst.out]; simp [he])
            clear he Hst
            go_wp2_with fail
            go_ret2
            exact ⟨ret_pair Hf.out, Below.refl _ _⟩
        · have hlt' : ¬ ((k : Int) < (n : Int)) := by omega
          have Hf : Hid (tyN lv _ nn (xs) = (1, 0)) := hide (by
            rw [Hr.out, ← HA.out, List.drop_of_length_le (by first | (rw [Hri.out.1]; omega) | (simp; omega))]; simp [allEq])
          clear HA
          go_wp2_with fail
          go_ret2
          exact ⟨ret_pair Hf.out, Below.refl _ _⟩
  · have Hr : Hid (tyN lv op nn xs = if allEq 2 xs = true then (1, 0) else (0, 4)) := hide (by
      rcases hop with rfl | rfl <;> simp [kidsOf] at hk <;> rcases xs with _ | ⟨a, _ | ⟨b, _ | ⟨d, r⟩⟩⟩ <;> simp at hxl <;> first | omega | simp [tyN, allEq, List.getD])
    clear ho1 ho2 h3 h4 hk hxl
    rcases hop with rfl | rfl
    all_goals
      go_enter Tryz.func117, Tryz.ntmps117
      go_wp2_with fail
      go_loopw [40] (fun i wr => ∃ k : Nat, k ≤ n ∧ i = .int .i64 k ∧ Hid (allEq 2 (xs.drop k) = allEq 2 xs) ∧ wr = w) (fun i _ => n - (intOf i).toNat)
      case atStart => exact ⟨0, by omega, rfl, hide rfl, rfl⟩
      case round =>
        obtain ⟨k, hk2, rfl, HA, rfl⟩ := hrel
        by_cases hlt : k < n
        · have hlt' : ((k : Int) < (n : Int)) := by omega
          obtain ⟨b1, o1, x, hb1, _, hx, c1⟩ := Hri.out.at_ hlt
          subst hb1
          have Hst : Hid (((x == 2) && allEq 2 (xs.drop (k + 1))) = allEq 2 xs) := hide (by rw [← HA.out, drop_at hx, allEq])
          clear hx HA
          by_cases he : x = 2
          · have heb : (x != 2) = false := by simp [he]
            have Hs2 : Hid (allEq 2 (xs.drop (k + 1)) = allEq 2 xs) := hide (by rw [← Hst.out]; simp [he])
            clear he Hst
            go_wp2_with fail
            go_roundw
            case rel => exact ⟨k + 1, by omega, by go_num, Hs2, by first | rfl | trivial⟩
            case measure => simp [intOf]; omega
          · have heb : (x != 2) = true := by simp [he]
            have Hf : Hid (tyN lv _ nn (xs) = (0, 4)) := hide (by rw [Hr.out, ← Hst.out]; simp [he])
            clear he Hst
            go_wp2_with fail
            go_ret2
            exact ⟨ret_pair Hf.out, Below.refl _ _⟩
        · have hlt' : ¬ ((k : Int) < (n : Int)) := by omega
          have Hf : Hid (tyN lv _ nn (xs) = (1, 0)) := hide (by
            rw [Hr.out, ← HA.out, List.drop_of_length_le (by first | (rw [Hri.out.1]; omega) | (simp; omega))]; simp [allEq])
          clear HA
          go_wp2_with fail
          go_ret2
          exact ⟨ret_pair Hf.out, Below.refl _ _⟩
  · have Hr : Hid (tyN lv op nn xs = if allEq 2 xs = true then (2, 0) else (0, 4)) := hide (by
      rcases hop with rfl | rfl | rfl | rfl <;> simp [kidsOf] at hk <;> rcases xs with _ | ⟨a, _ | ⟨b, _ | ⟨d, r⟩⟩⟩ <;> simp at hxl <;> first | omega | simp [tyN, allEq, List.getD])
    clear ho1 ho2 h3 h4 hk hxl
    rcases hop with rfl | rfl | rfl | rfl
    all_goals
      go_enter Tryz.func117, Tryz.ntmps117
      go_wp2_with fail
      go_loopw [40] (fun i wr => ∃ k : Nat, k ≤ n ∧ i = .int .i64 k ∧ Hid (allEq 2 (xs.drop k) = allEq 2 xs) ∧ wr = w) (fun i _ => n - (intOf i).toNat)
      case atStart => exact ⟨0, by omega, rfl, hide rfl, rfl⟩
      case round =>
        obtain ⟨k, hk2, rfl, HA, rfl⟩ := hrel
        by_cases hlt : k < n
        · have hlt' : ((k : Int) < (n : Int)) := by omega
          obtain ⟨b1, o1, x, hb1, _, hx, c1⟩ := Hri.out.at_ hlt
          subst hb1
          have Hst : Hid (((x == 2) && allEq 2 (xs.drop (k + 1))) = allEq 2 xs) := hide (by rw [← HA.out, drop_at hx, allEq])
          clear hx HA
          by_cases he : x = 2
          · have heb : (x != 2) = false := by simp [he]
            have Hs2 : Hid (allEq 2 (xs.drop (k + 1)) = allEq 2 xs) := hide (by rw [← Hst.out]; simp [he])
            clear he Hst
            go_wp2_with fail
            go_roundw
            case rel => exact ⟨k + 1, by omega, by go_num, Hs2, by first | rfl | trivial⟩
            case measure => simp [intOf]; omega
          · have heb : (x != 2) = true := by simp [he]
            have Hf : Hid (tyN lv _ nn (xs) = (0, 4)) := hide (by rw [Hr.out, ← Hst.out]; simp [he])
            clear he Hst
            go_wp2_with fail
            go_ret2
            exact ⟨ret_pair Hf.out, Below.refl _ _⟩
        · have hlt' : ¬ ((k : Int) < (n : Int)) := by omega
          have Hf : Hid (tyN lv _ nn (xs) = (2, 0)) := hide (by
            rw [Hr.out, ← HA.out, List.drop_of_length_le (by first | (rw [Hri.out.1]; omega) | (simp; omega))]; simp [allEq])
          clear HA
          go_wp2_with fail
          go_ret2
          exact ⟨ret_pair Hf.out, Below.refl _ _⟩
  · simp [kidsOf] at hk
    obtain rfl : n = 2 := by omega
    rcases xs with _ | ⟨a, _ | ⟨b, _ | ⟨d, r⟩⟩⟩ <;> simp at hxl
    have Hr : Hid (tyN lv 9 nn [a, b] = if allEq a [a, b] = true then (1, 0) else (0, 4)) := hide (by by_cases h : a = b <;> simp [tyN, allEq, List.getD, h] <;> omega)
    obtain ⟨b0, o0, x0, rfl, _, hx0, c0⟩ := Hri.out.at_ (k := 0) (by omega)
    simp at hx0
    subst hx0
    rw [Nat.add_zero] at c0
    clear ho1 ho2 h3 h4 hk
    go_enter Tryz.func117, Tryz.ntmps117
    go_wp2_with fail
    go_loopw [40] (fun i wr => ∃ k : Nat, k ≤ 2 ∧ i = .int .i64 k ∧ Hid (allEq a ([a, b].drop k) = allEq a [a, b]) ∧ wr = w) (fun i _ => 2 - (intOf i).toNat)
    case atStart => exact ⟨0, by omega, rfl, hide rfl, rfl⟩
    case round =>
      obtain ⟨k, hk2, rfl, HA, rfl⟩ := hrel
      by_cases hlt : k < 2
      · have hlt' : ((k : Int) < (2 : Int)) := by omega
        obtain ⟨b1, o1, x, hb1, _, hx, c1⟩ := Hri.out.at_ hlt
        injection hb1 with hb1; injection hb1 with hb1 hb2; subst hb1; subst hb2
        have Hst : Hid (((x == a) && allEq a ([a, b].drop (k + 1))) = allEq a [a, b]) := hide (by rw [← HA.out, drop_at hx, allEq])
        clear hx HA
        by_cases he : x = a
        · have heb : (x != a) = false := by simp [he]
          have Hs2 : Hid (allEq a ([a, b].drop (k + 1)) = allEq a [a, b]) := hide (by rw [← Hst.out]; simp [he])
          clear he Hst
          go_wp2_with fail
          go_roundw
          case rel => exact ⟨k + 1, by omega, by go_num, Hs2, by first | rfl | trivial⟩
          case measure => simp [intOf]; omega
        · have heb : (x != a) = true := by simp [he]
          have Hf : Hid (tyN lv 9 nn ([a, b]) = (0, 4)) := hide (by rw [Hr.out, ← Hst.out]; simp [he])
          clear he Hst
          go_wp2_with fail
          go_ret2
          exact ⟨ret_pair Hf.out, Below.refl _ _⟩
      · have hlt' : ¬ ((k : Int) < (2 : Int)) := by omega
        have Hf : Hid (tyN lv 9 nn ([a, b]) = (1, 0)) := hide (by
          rw [Hr.out, ← HA.out, List.drop_of_length_le (by first | (rw [Hri.out.1]; omega) | (simp; omega))]; simp [allEq])
        clear HA
        go_wp2_with fail
        go_ret2
        exact ⟨ret_pair Hf.out, Below.refl _ _⟩
  · simp [kidsOf] at hk
    obtain rfl : n = 3 := by omega
    rcases xs with _ | ⟨a, _ | ⟨b, _ | ⟨d, _ | ⟨f, r⟩⟩⟩⟩ <;> simp at hxl
    obtain ⟨b0, o0, x0, rfl, _, hx0, c0⟩ := Hri.out.at_ (k := 0) (by omega)
    simp at hx0
    subst hx0
    obtain ⟨b1, o1, x1, e1, _, hx1, c1⟩ := Hri.out.at_ (k := 1) (by omega)
    simp at hx1
    subst hx1
    injection e1 with e1; injection e1 with e1 e2; subst e1; subst e2
    rw [Nat.add_zero] at c0
    clear ho1 ho2 h3 h4 hk
    by_cases ha : a = 1
    · have hab : (a != 1) = false := by simp [ha]
      have Hr : Hid (tyN lv 15 nn [a, b, d] = if allEq b [b, d] = true then (b, 0) else (0, 4)) := hide (by by_cases h : b = d <;> simp [tyN, allEq, List.getD, ha, h] <;> omega)
      clear ha
      have Hrt := hide (ri_tail Hri.out)
      go_enter Tryz.func117, Tryz.ntmps117
      go_wp2_with fail
      go_quiet (fail)
      go_wp2_with fail
      go_loopw [40] (fun i wr => ∃ k : Nat, k ≤ 2 ∧ i = .int .i64 k ∧ Hid (allEq b ([b, d].drop k) = allEq b [b, d]) ∧ Below w.heap.size w wr) (fun i _ => 2 - (intOf i).toNat)
      case atStart => exact ⟨0, by omega, rfl, hide rfl, below_drewN (Below.refl _ _) _⟩
      case round =>
        obtain ⟨k, hk2, rfl, HA, hbw⟩ := hrel
        by_cases hlt : k < 2
        · have hlt' : ((k : Int) < (2 : Int)) := by omega
          obtain ⟨b1, o1, x, hb1, _, hx, c1⟩ := (Hrt.out.below (hbw.mono hB)).at_ hlt
          injection hb1 with hb1; injection hb1 with hb1 hb2; subst hb1; subst hb2
          have Hst : Hid (((x == b) && allEq b ([b, d].drop (k + 1))) = allEq b [b, d]) := hide (by rw [← HA.out, drop_at hx, allEq])
          clear hx HA
          by_cases he : x = b
          · have heb : (x != b) = false := by simp [he]
            have Hs2 : Hid (allEq b ([b, d].drop (k + 1)) = allEq b [b, d]) := hide (by rw [← Hst.out]; simp [he])
            clear he Hst
            go_wp2_with fail
            go_roundw
            case rel => exact ⟨k + 1, by omega, by go_num, Hs2, hbw⟩
            case measure => simp [intOf]; omega
          · have heb : (x != b) = true := by simp [he]
            have Hf : Hid (tyN lv 15 nn ([a, b, d]) = (0, 4)) := hide (by rw [Hr.out, ← Hst.out]; simp [he])
            clear he Hst
            go_wp2_with fail
            go_ret2
            exact ⟨ret_pair Hf.out, hbw⟩
        · have hlt' : ¬ ((k : Int) < (2 : Int)) := by omega
          have Hf : Hid (tyN lv 15 nn ([a, b, d]) = (b, 0)) := hide (by
            rw [Hr.out, ← HA.out, List.drop_of_length_le (by first | (rw [Hrt.out.1]; omega) | (simp; omega))]; simp [allEq])
          clear HA
          go_wp2_with fail
          go_ret2
          exact ⟨ret_pair Hf.out, hbw⟩
    · have hab : (a != 1) = true := by simp [ha]
      have Hf : Hid (tyN lv 15 nn [a, b, d] = (0, 4)) := hide (by simp [tyN, List.getD, ha])
      clear ha
      go_enter Tryz.func117, Tryz.ntmps117
      go_wp2_with fail
      go_ret2
      exact ⟨ret_pair Hf.out, Below.refl _ _⟩
end Go.Proofs.YtbppdalfcldodaaGreat
namespace Go.Proofs.YtbppdalfcldodaaGreat
open Go.RowKit Ex
set_option linter.unusedSimpArgs false
set_option linter.unusedVariables false

theorem mk_new (w : World) (n : Nat) : (w.alloc (.cells (Array.replicate n (.int .i64 0)) 3)).rowIs w.heap.size 3 n (s3V []) := by
  have h := World.rowIs_alloc w (Array.replicate n (.int .i64 0)) 3 (s3V []) (fun i hi => by simp [s3V, List.getD, Array.getElem?_replicate] at hi ⊢; exact hi)
  simpa using h
theorem sN_set {w : World} {g n : Nat} {pre : List Int} (h : w.rowIs g 3 n (s3V pre)) (x : Int) {k : Nat} (hk : pre.length = k) : (w.setCell ⟨g, k, none⟩ (.int .i64 x)).rowIs g 3 n (s3V (pre ++ [x])) :=
  (h.set k (.int .i64 x)).congr (fun i hi => by
    by_cases e : i = k
    · rw [if_pos e, e, ← hk]; simp [s3V, List.getD]
    · rw [if_neg e]
      simp only [s3V, List.getD]
      by_cases hl : i < k
      · rw [List.getElem?_append_left (by omega)]
      · rw [List.getElem?_append_right (by omega), List.getElem?_eq_none (by omega : pre.length ≤ i), List.getElem?_eq_none (by simp; omega)])
theorem row_ri {w : World} {g n B : Nat} {pre : List Int} (h : w.rowIs g 3 n (s3V pre)) (hl : pre.length = n) (hg : g < B) : RI w B (some ⟨g, 0, none⟩) n pre :=
  ⟨hl, fun _ => ⟨g, 0, rfl, hg, fun k x hx => by
    have hk : k < n := by rw [← hl]; exact (List.getElem?_eq_some_iff.1 hx).1
    have := h.cell hk
    rw [Nat.zero_add, this]
    simp [s3V, List.getD, hx]⟩⟩
theorem sound_k {t : T} (h : sound t = true) : (t.kids.length : Int) = kidsOf t.op := by
  rw [sound_eq, nodeB_eq, Bool.and_eq_true, Bool.and_eq_true] at h
  simpa using h.1.1

set_option maxRecDepth 100000 in
set_option maxHeartbeats 40000000 in
theorem find_any (B : Nat) (Av : Option Addr) (nv cv : Nat) (lv : List Dom.V) (hnv : nv ≤ maxLen) : ∀ (d : Nat) (op n : Int) (A : Option Addr) (len cap : Nat) (t : T) (w : World), B ≤ w.heap.size → RE w B d op n A len cap t → sound t = true → Dom.RV w B Av nv lv →
    Calls Tryz.prog 97 #[.slice Av nv cv, .agg #[.int .i64 op, .int .i64 n, .slice A len cap]] w fun e w' => e = .returned (.tuple #[.int .i64 (tyT lv t).1, .int .i64 (tyT lv t).2]) ∧ Below w.heap.size w w' := by
  intro d
  induction d with
  | zero => intro op n A len cap t w hB h; exact absurd h id
  | succ d ih =>
    intro op n A len cap t w hB hre hsd hrv
    have IH := hide ih; clear ih
    have Hre := hide hre
    have Hrv := hide hrv
    have Hnl := hide hrv.1
    obtain ⟨hx1, hx2, hlen, hcap, hmx, hx6⟩ := hre
    unfold maxLen at hmx hnv
    have Hlen := hide hlen
    have Hsd := hide hsd
    obtain ⟨ho1, ho2, hl3⟩ := sound_op hsd
    have hkk := sound_k hsd
    rw [hx1] at ho1 ho2 hkk
    rw [hlen] at hl3 hkk
    have Hty : Hid (tyT lv t = if (tyK lv t.kids).2 = 0 then tyN lv op n (tyK lv t.kids).1 else (0, (tyK lv t.kids).2)) := hide (by rw [tyT_eq, hx1, hx2])
    have Hnn : Hid ((op = 3 ∨ op = 4) → 0 ≤ n ∧ n < 6) := hide (fun ho => by
      have h := sound_n (op := op) hsd ho hx1
      rw [hx2] at h; exact h)
    have Hkk := hide hkk
    clear hlen hx1 hx2 hx6 hsd hrv hkk
    by_cases hv : op = 3 ∨ op = 4
    · have Hk0 : Hid (tyT lv t = tyN lv op n []) := hide (by
        have h0 : t.kids = [] := List.length_eq_zero_iff.1 (by
          have h := Hkk.out
          rw [Hlen.out]
          rcases hv with rfl | rfl <;> simp [kidsOf] at h <;> exact h)
        rw [Hty.out, h0, tyK]; rfl)
      obtain ⟨n0, n6⟩ := Hnn.out hv
      obtain ⟨q, rfl⟩ := Int.eq_ofNat_of_zero_le n0
      have hbA : Below w.heap.size w (w.alloc (.cells #[.int .i64 op, .int .i64 (q : Int), .slice A len cap] 25)) := (Below.refl _ _).alloc (Nat.le_refl _) _
      have HbA := hide hbA
      have Hvr := hide (Hrv.out.below (hbA.mono hB))
      obtain ⟨f0, f1, f2⟩ := box_new w op q A len cap 25
      clear hbA Hre Hrv IH Hty Hnn Hkk Hsd Hlen n0 ho1 ho2
      by_cases hn : nv ≤ q
      · have hnb : decide ((nv : Int) ≤ (q : Int)) = true := by simp; omega
        have hnc : decide (nv ≤ q) = true := by simp; omega
        have HF : Hid (tyT lv t = (0, 3)) := hide (Hk0.out.trans (by rcases hv with rfl | rfl <;> simp [tyN, Hnl.out, hn]))
        clear Hk0 hn
        rcases hv with rfl | rfl
        all_goals
          go_enter Tryz.func97, Tryz.ntmps97
          go_wp2_with fail
          go_ret2
          exact ⟨ret_pair HF.out, HbA.out⟩
      · have hnb : decide ((nv : Int) ≤ (q : Int)) = false := by simp; omega
        have hnc : decide (nv ≤ q) = false := by simp; omega
        obtain ⟨b, off, v, rfl, hvb, hvq, g0, g1, g2, g3, g4⟩ := Hvr.out.at_ (k := q) (by omega)
        have hqn : (q : Int) < (nv : Int) := by omega
        have HF : Hid (tyT lv t = (v.srt, 0)) := hide (Hk0.out.trans (by rcases hv with rfl | rfl <;> simp [tyN, Hnl.out, hn, hvq]))
        clear Hk0 hn hvq
        rcases hv with rfl | rfl
        all_goals
          go_enter Tryz.func97, Tryz.ntmps97
          go_wp2_with fail
          go_ret2
          exact ⟨ret_pair HF.out, HbA.out⟩
    · have hv3 : (op == 3) = false := by simp; omega
      have hv4 : (op == 4) = false := by simp; omega
      have hmk : ∀ w : World, (Instr.makeSlice 32 (.int .i64 (len : Int)) (.int .i64 (len : Int))).run Tryz.prog w = .ok (.slice (some ⟨w.heap.size, 0, none⟩) len len) (w.alloc (.cells (Array.replicate len (.int .i64 0)) 3)) := by
        have h : len = 0 ∨ len = 1 ∨ len = 2 ∨ len = 3 := by omega
        rcases h with rfl | rfl | rfl | rfl
        all_goals
          intro w
          kernel_rfl
      have Hne3 : Hid (op ≠ 3 ∧ op ≠ 4) := hide (by omega)
      clear hv
      have hbB : Below w.heap.size w ((w.alloc (.cells #[.int .i64 op, .int .i64 n, .slice A len cap] 25)).alloc (.cells (Array.replicate len (.int .i64 0)) 3)) := ((Below.refl _ _).alloc (Nat.le_refl _) _).alloc (by simp) _
      have Hrow0 := mk_new (w.alloc (.cells #[.int .i64 op, .int .i64 n, .slice A len cap] 25)) len
      have hzA : (w.alloc (.cells #[.int .i64 op, .int .i64 n, .slice A len cap] 25)).heap.size = w.heap.size + 1 := by simp
      rw [hzA] at Hrow0
      have Hrow := hide Hrow0
      have hbox0 := box_new w op n A len cap 25
      have hbox := hbox0.below ((Below.refl (w.heap.size + 1) (w.alloc (.cells #[.int .i64 op, .int .i64 n, .slice A len cap] 25))).alloc (by simp) (.cells (Array.replicate len (.int .i64 0)) 3)) (by omega)
      have Hbox := hide hbox
      have hzB : ((w.alloc (.cells #[.int .i64 op, .int .i64 n, .slice A len cap] 25)).alloc (.cells (Array.replicate len (.int .i64 0)) 3)).heap.size = w.heap.size + 2 := by simp
      have HbB := hide hbB
      clear hbB Hrow0 hzA
      obtain ⟨e0, e1, e2⟩ := hbox0
      obtain ⟨f0, f1, f2⟩ := hbox
      go_enter Tryz.func97, Tryz.ntmps97
      go_wp2_with fail
      clear f0 f1 f2 e0 e1 e2 hmk hv3 hv4
      generalize (w.alloc (.cells #[.int .i64 op, .int .i64 n, .slice A len cap] 25)).alloc (.cells (Array.replicate len (.int .i64 0)) 3) = W at *
      go_loopw [37] (fun i wr => ∃ (k : Nat) (pre : List Int), k ≤ len ∧ i = .int .i64 k ∧ pre.length = k ∧ Hid ((tyK lv t.kids).2 = (tyK lv (t.kids.drop k)).2 ∧ ((tyK lv (t.kids.drop k)).2 = 0 → (tyK lv t.kids).1 = pre ++ (tyK lv (t.kids.drop k)).1)) ∧ wr.rowIs (w.heap.size + 1) 3 len (s3V pre) ∧ Onl (w.heap.size + 1) W wr) (fun i _ => len - (intOf i).toNat)
      case atStart => exact ⟨0, [], by omega, rfl, rfl, hide ⟨rfl, fun _ => rfl⟩, Hrow.out, Onl.refl _ _⟩
      case round =>
        obtain ⟨k, pre, hk, rfl, hpl, HT, hrw, hon⟩ := hrel
        have Hrw := hide hrw
        have Hon := hide hon
        have hzr := hon.size
        have Hbw := hide (HbB.out.trans (hon.below (B := w.heap.size) (by omega) (by omega)))
        clear hrw hon
        by_cases hlt : k < len
        · have hlt' : ((k : Int) < (len : Int)) := by omega
          obtain ⟨b, off, u, op2, n2, A2, l2, c2, rfl, hbB2, hku, ⟨c0, c1, cs⟩, hre2⟩ := (Hre.out.below (Hbw.out.mono hB)).at_ hlt
          have Hsu := hide (soundK_at _ k u (sound_kids Hsd.out) hku)
          have Hdr : Hid (tyK lv (t.kids.drop k) = if (tyT lv u).2 = 0 then ((tyT lv u).1 :: (tyK lv (t.kids.drop (k + 1))).1, (tyK lv (t.kids.drop (k + 1))).2) else ([], (tyT lv u).2)) := hide (by rw [drop_at hku, tyK])
          clear hku
          have Hre3 := hide (hre2.below ((Below.refl B wr).alloc (by omega) (.cells #[.int .i64 op2, .int .i64 n2, .slice A2 l2 c2] 25)))
          have Hrv3 := hide ((Hrv.out.below (Hbw.out.mono hB)).below ((Below.refl B wr).alloc (by omega) (.cells #[.int .i64 op2, .int .i64 n2, .slice A2 l2 c2] 25)))
          clear hre2
          have hbz : B ≤ (wr.alloc (.cells #[.int .i64 op2, .int .i64 n2, .slice A2 l2 c2] 25)).heap.size := by simp; omega
          have hzk : (wr.alloc (.cells #[.int .i64 op2, .int .i64 n2, .slice A2 l2 c2] 25)).heap.size = wr.heap.size + 1 := by simp
          have Hrw2 := hide (Hrw.out.alloc (.cells #[.int .i64 op2, .int .i64 n2, .slice A2 l2 c2] 25))
          have Hon2 := hide (Hon.out.alloc (.cells #[.int .i64 op2, .int .i64 n2, .slice A2 l2 c2] 25))
          go_wp2_with fail
          refine (IH.out op2 n2 A2 l2 c2 u _ hbz Hre3.out Hsu.out Hrv3.out).mono ?_
          rintro e w3 ⟨rfl, hb3⟩
          have hz3 := hb3.size
          have Hrw3 := hide (Hrw2.out.of_block (hb3.block _ (by omega)))
          have Hon3 : Hid (Onl (w.heap.size + 1) W w3) := hide (Hon2.out.trans ⟨hb3.os, hb3.tape, hb3.output, hb3.size, fun i hi _ => hb3.block i hi⟩)
          clear hb3 c0 c1 cs Hre3 Hrv3 Hrw2 Hon2 hbz
          generalize tyT lv u = r at *
          obtain ⟨rx, re⟩ := r
          simp only at Hdr ⊢
          by_cases he : re = 0
          · have heb : (re != 0) = false := by simp [he]
            have HT2 : Hid ((tyK lv t.kids).2 = (tyK lv (t.kids.drop (k + 1))).2 ∧ ((tyK lv (t.kids.drop (k + 1))).2 = 0 → (tyK lv t.kids).1 = (pre ++ [rx]) ++ (tyK lv (t.kids.drop (k + 1))).1)) := hide (by
              have h := Hdr.out
              rw [if_pos he] at h
              have h2 := HT.out
              rw [h] at h2
              refine ⟨h2.1, fun h3 => ?_⟩
              rw [h2.2 h3]; simp)
            obtain ⟨v0, hv0⟩ : ∃ v, w3.cell? ⟨w.heap.size + 1, k, none⟩ = some v := ⟨_, Hrw3.out.cell (by omega)⟩
            have hfz := Hrw3.out.frozen k
            have Hset := hide (sN_set Hrw3.out rx hpl)
            have Hon4 := hide (Hon3.out.set k (.int .i64 rx))
            clear he Hdr
            go_wp2_with fail
            go_roundw
            case rel => exact ⟨k + 1, pre ++ [rx], by omega, by go_num, by simp [hpl], HT2, Hset.out, Hon4.out⟩
            case measure => simp [intOf]; omega
          · have heb : (re != 0) = true := by simp [he]
            have Hf : Hid (tyT lv t = (0, re)) := hide (by
              have h := Hdr.out
              rw [if_neg he] at h
              have h2 := HT.out
              rw [h] at h2
              rw [Hty.out, if_neg (by rw [h2.1]; exact he), h2.1])
            have Hbf := hide (HbB.out.trans (Hon3.out.below (B := w.heap.size) (by omega) (by omega)))
            clear he
            go_wp2_with fail
            go_ret2
            exact ⟨ret_pair Hf.out, Hbf.out⟩
        · have hlt' : ¬ ((k : Int) < (len : Int)) := by omega
          obtain rfl : k = len := by omega
          have Hf : Hid (tyT lv t = tyN lv op n pre) := hide (by
            have h : tyK lv (t.kids.drop k) = ([], 0) := by rw [List.drop_of_length_le (by rw [Hlen.out]; omega), tyK]
            have h2 := HT.out
            rw [h] at h2
            rw [Hty.out, if_pos h2.1, h2.2 rfl, List.append_nil])
          have hgb : w.heap.size ≠ w.heap.size + 1 := by omega
          have f0 := (Hon.out.cell (p := ⟨w.heap.size, 0, none⟩) (by show w.heap.size < W.heap.size; omega) (by exact hgb)).trans Hbox.out.1
          have Hri := hide (row_ri Hrw.out hpl (B := wr.heap.size) (by omega))
          clear hgb HT Hty Hon Hbox HbB Hrow
          go_wp2_with fail
          refine (join_any wr.heap.size lv n op _ k k pre wr (Nat.le_refl _) ho1 ho2 Hne3.out.1 Hne3.out.2 Hkk.out (Nat.le_refl _) (by unfold maxLen; omega) Hri.out).mono ?_
          rintro e w3 ⟨rfl, hb3⟩
          have Hbf := hide (Hbw.out.trans (hb3.mono (by have := Hbw.out.size; omega)))
          clear hb3 f0
          generalize tyN lv op n pre = r at *
          obtain ⟨rx, re⟩ := r
          simp only
          go_wp2_with fail
          go_ret2
          exact ⟨ret_pair Hf.out, Hbf.out⟩
end Go.Proofs.YtbppdalfcldodaaGreat
namespace Go.Proofs.YtbppdalfcldodaaGreat
open Go.RowKit Ex
set_option linter.unusedSimpArgs false
set_option linter.unusedVariables false

theorem now_next (l : List Dom.V) (now : Bool) : ∀ xs, nextBad l true now xs = nowBad l now xs
  | [] => rfl
  | x :: r => by rw [nextBad, nowBad, now_next l now r]; simp

set_option maxRecDepth 100000 in
set_option maxHeartbeats 4000000 in
theorem mayRead_any (B : Nat) (Av : Option Addr) (nv cv : Nat) (lv : List Dom.V) (X : Option Addr) (m c : Nat) (xs : List Int) (env sys : Bool) (w : World) (hnv : nv ≤ maxLen) (hm : m ≤ 6) (hri : RI w B X m xs) (hrv : Dom.RV w B Av nv lv) (hin : ∀ x ∈ xs, ∃ i : Nat, i < 6 ∧ i < nv ∧ x = (i : Int)) :
    Calls Tryz.prog 124 #[.slice Av nv cv, .slice X m c, .bool env, .bool sys] w fun e w' => e = .returned (.bool (!nextBad lv env sys xs)) ∧ Below w.heap.size w w' := by
  unfold maxLen at hnv
  have Hri := hide hri
  have Hrv := hide hrv
  have Hin := hide hin
  clear hri hrv hin
  go_enter Tryz.func124, Tryz.ntmps124
  go_wp2_with fail
  go_loopw [13] (fun i wr => ∃ j : Nat, j ≤ m ∧ i = .int .i64 j ∧ Hid (nextBad lv env sys (xs.drop j) = nextBad lv env sys xs) ∧ wr = w) (fun i _ => m - (intOf i).toNat)
  case atStart => exact ⟨0, by omega, rfl, hide rfl, rfl⟩
  case round =>
    obtain ⟨j, hj, rfl, HB, rfl⟩ := hrel
    by_cases hjl : j < m
    · have hjl' : ((j : Int) < (m : Int)) := by omega
      obtain ⟨bb, bo, x, rfl, hbb, hx, cx⟩ := Hri.out.at_ hjl
      obtain ⟨q, hq6, hqn, rfl⟩ := Hin.out x (List.mem_of_getElem? hx)
      obtain ⟨vb, vo, v, rfl, hvb, hvq, g0, g1, g2, g3, g4⟩ := Hrv.out.at_ (k := q) hqn
      have hqn' : (q : Int) < (nv : Int) := by omega
      have Hst : Hid (((v.env && !env || !v.env && !sys) || nextBad lv env sys (xs.drop (j + 1))) = nextBad lv env sys xs) := hide (by
        rw [← HB.out, drop_at hx, nextBad]
        have : envAt lv (q : Int) = v.env := by unfold envAt; simp [hvq]
        rw [this])
      clear hx hvq g0 g2 g3 g4 HB
      cases hve : v.env
      · rw [hve] at g1
        cases sys
        · have Hf : Hid ((!nextBad lv env false xs) = false) := hide (by rw [← Hst.out, hve]; simp)
          go_wp2_with fail
          go_ret
          exact ⟨ret_bool Hf.out.symm, Below.refl _ _⟩
        · have Hon : Hid (nextBad lv env true (xs.drop (j + 1)) = nextBad lv env true xs) := hide (by rw [← Hst.out, hve]; simp)
          go_wp2_with fail
          go_roundw
          case rel => exact ⟨j + 1, by omega, by go_num, Hon, by first | rfl | trivial⟩
          case measure => simp [intOf]; omega
      · rw [hve] at g1
        cases env
        · have Hf : Hid ((!nextBad lv false sys xs) = false) := hide (by rw [← Hst.out, hve]; simp)
          go_wp2_with fail
          go_ret
          exact ⟨ret_bool Hf.out.symm, Below.refl _ _⟩
        · have Hon : Hid (nextBad lv true sys (xs.drop (j + 1)) = nextBad lv true sys xs) := hide (by rw [← Hst.out, hve]; simp)
          go_wp2_with fail
          go_roundw
          case rel => exact ⟨j + 1, by omega, by go_num, Hon, by first | rfl | trivial⟩
          case measure => simp [intOf]; omega
    · have hjl' : ¬ ((j : Int) < (m : Int)) := by omega
      have Hf : Hid ((!nextBad lv env sys xs) = true) := hide (by rw [← HB.out, List.drop_of_length_le (by rw [Hri.out.1]; omega)]; rfl)
      go_wp2_with fail
      go_ret
      exact ⟨ret_bool Hf.out.symm, Below.refl _ _⟩

set_option maxRecDepth 100000 in
set_option maxHeartbeats 4000000 in
theorem of_any (B : Nat) (Av : Option Addr) (nv cv : Nat) (lv : List Dom.V) (d : Nat) (op n : Int) (A : Option Addr) (len cap : Nat) (t : T) (w : World) (hnv : nv ≤ maxLen) (hnc : nv ≤ cv) (hcv : cv ≤ maxLen) (hB : B ≤ w.heap.size) (hre : RE w B d op n A len cap t) (hrv : Dom.RV w B Av nv lv) (hnm : ∀ v ∈ lv, v.nm.size ≤ maxLen) :
    Calls Tryz.prog 66 #[.slice Av nv cv, .agg #[.int .i64 op, .int .i64 n, .slice A len cap]] w fun e w' => e = .returned (.tuple #[.int .i64 (sortE lv t).1, .int .i64 (sortE lv t).2]) ∧ Below w.heap.size w w' := by
  have hbx : Below w.heap.size w (w.alloc (.cells #[.int .i64 op, .int .i64 n, .slice A len cap] 25)) := (Below.refl _ _).alloc (Nat.le_refl _) _
  have Hre := hide (hre.below (hbx.mono hB))
  have Hrv := hide (hrv.below (hbx.mono hB))
  have Hbox := hide (box_new w op n A len cap 25)
  have hz0 : (w.alloc (.cells #[.int .i64 op, .int .i64 n, .slice A len cap] 25)).heap.size = w.heap.size + 1 := by simp
  have Hbx := hide hbx
  clear hre hrv hbx
  have Hs : Hid (sortE lv t = if Dom.mayL lv = 0 then (if mayE t = 0 then tyT lv t else (0, mayE t)) else (0, Dom.mayL lv)) := hide rfl
  go_enter Tryz.func66, Tryz.ntmps66
  go_wp2_with fail
  generalize w.alloc (.cells #[.int .i64 op, .int .i64 n, .slice A len cap] 25) = W at *
  refine (Dom.may_any Av nv cv B lv W hnv (by omega) Hrv.out hnm).mono ?_
  rintro e w1 ⟨rfl, hb1⟩
  have hz1 := hb1.size
  have Hb1 := hide (Hbx.out.trans (hb1.mono (by omega)))
  have Hre1 := hide (Hre.out.below (hb1.mono (by omega)))
  have Hrv1 := hide (Hrv.out.below (hb1.mono (by omega)))
  obtain ⟨f0, f1, f2⟩ := Hbox.out.below hb1 (by omega)
  have Hbox1 := hide (Hbox.out.below hb1 (by omega))
  clear hb1 Hre Hrv Hbox Hbx
  by_cases hm : Dom.mayL lv = 0
  · have hmb : (Dom.mayL lv != 0) = false := by simp [hm]
    rw [if_pos hm] at Hs
    clear hm
    go_wp2_with fail
    refine (may_any B d op n A len cap t w1 (by omega) Hre1.out).mono ?_
    rintro e w2 ⟨rfl, hb2⟩
    have hz2 := hb2.size
    have Hb2 := hide (Hb1.out.trans (hb2.mono (by omega)))
    have Hre2 := hide (Hre1.out.below (hb2.mono (by omega)))
    have Hrv2 := hide (Hrv1.out.below (hb2.mono (by omega)))
    clear f0 f1 f2
    obtain ⟨f0, f1, f2⟩ := Hbox1.out.below hb2 (by omega)
    clear hb2 Hre1 Hrv1 Hbox1
    by_cases he : mayE t = 0
    · have heb : (mayE t != 0) = false := by simp [he]
      have Hsd := hide (may_sound he)
      rw [if_pos he] at Hs
      clear he
      go_wp2_with fail
      refine (find_any B Av nv cv lv hnv d op n A len cap t w2 (by omega) Hre2.out Hsd.out Hrv2.out).mono ?_
      rintro e w3 ⟨rfl, hb3⟩
      have Hb3 := hide (Hb2.out.trans (hb3.mono (by omega)))
      clear hb3 f0 f1 f2
      generalize tyT lv t = r at *
      obtain ⟨r1, r2⟩ := r
      simp only
      go_wp2_with fail
      go_ret2
      exact ⟨ret_pair Hs.out, Hb3.out⟩
    · have heb : (mayE t != 0) = true := by simp [he]
      rw [if_neg he] at Hs
      clear he
      go_wp2_with fail
      go_ret2
      exact ⟨ret_pair Hs.out, Hb2.out⟩
  · have hmb : (Dom.mayL lv != 0) = true := by simp [hm]
    rw [if_neg hm] at Hs
    clear hm
    go_wp2_with fail
    go_ret2
    exact ⟨ret_pair Hs.out, Hb1.out⟩

set_option maxRecDepth 100000 in
set_option maxHeartbeats 4000000 in
theorem needs_any (B : Nat) (Av : Option Addr) (nv cv : Nat) (lv : List Dom.V) (d : Nat) (op n : Int) (A : Option Addr) (len cap : Nat) (t : T) (want : Int) (now env sys : Bool) (w : World) (hnv : nv ≤ maxLen) (hnc : nv ≤ cv) (hcv : cv ≤ maxLen) (hB : B ≤ w.heap.size) (hre : RE w B d op n A len cap t) (hrv : Dom.RV w B Av nv lv) (hnm : ∀ v ∈ lv, v.nm.size ≤ maxLen) :
    Calls Tryz.prog 103 #[.slice Av nv cv, .agg #[.int .i64 op, .int .i64 n, .slice A len cap], .int .i64 want, .bool now, .bool env, .bool sys] w fun e w' => e = .returned (.int .i64 (needE lv t want now env sys)) ∧ Below w.heap.size w w' := by
  have hbx : Below w.heap.size w (w.alloc (.cells #[.int .i64 op, .int .i64 n, .slice A len cap] 25)) := (Below.refl _ _).alloc (Nat.le_refl _) _
  have Hre := hide (hre.below (hbx.mono hB))
  have Hrv := hide (hrv.below (hbx.mono hB))
  have Hnl := hide hrv.1
  have Hbox := hide (box_new w op n A len cap 25)
  have hz0 : (w.alloc (.cells #[.int .i64 op, .int .i64 n, .slice A len cap] 25)).heap.size = w.heap.size + 1 := by simp
  have Hbx := hide hbx
  have Hnv := hide hnv
  have Hnm := hide hnm
  unfold maxLen at hnv
  clear hre hrv hbx hnm
  have Hs : Hid (needE lv t want now env sys = if (sortE lv t).2 = 0 then (if (sortE lv t).1 = want then (if nextBad lv env sys (readsE t true) = true then 5 else if nowBad lv now (readsE t false) = true then 3 else 0) else 4) else (sortE lv t).2) := hide rfl
  have Hin : Hid (∀ (next : Bool) (x : Int), (sortE lv t).2 = 0 → x ∈ readsE t next → ∃ i : Nat, i < 6 ∧ i < nv ∧ x = (i : Int)) := hide (fun next x h hx => by
    obtain ⟨i, h1, h2, h3⟩ := sort_reads h hx
    exact ⟨i, h1, by rw [← Hnl.out]; exact h2, h3⟩)
  obtain ⟨f0, f1, f2⟩ := Hbox.out
  go_enter Tryz.func103, Tryz.ntmps103
  go_wp2_with fail
  clear f0 f1 f2
  generalize w.alloc (.cells #[.int .i64 op, .int .i64 n, .slice A len cap] 25) = W at *
  refine (of_any B Av nv cv lv d op n A len cap t W Hnv.out hnc hcv (by omega) Hre.out Hrv.out Hnm.out).mono ?_
  rintro e w1 ⟨rfl, hb1⟩
  have hz1 := hb1.size
  have Hb1 := hide (Hbx.out.trans (hb1.mono (by omega)))
  have Hre1 := hide (Hre.out.below (hb1.mono (by omega)))
  have Hrv1 := hide (Hrv.out.below (hb1.mono (by omega)))
  have Hbox1 := hide (Hbox.out.below hb1 (by omega))
  clear hb1 Hre Hrv Hbox Hbx
  generalize sortE lv t = r at *
  obtain ⟨r1, r2⟩ := r
  simp only at Hs Hin ⊢
  by_cases h2 : r2 = 0
  · have h2b : (r2 != 0) = false := by simp [h2]
    rw [if_pos h2] at Hs
    have Hin2 : Hid (∀ (next : Bool) (x : Int), x ∈ readsE t next → ∃ i : Nat, i < 6 ∧ i < nv ∧ x = (i : Int)) := hide (fun next x hx => Hin.out next x h2 hx)
    clear h2 Hin
    by_cases h1 : r1 = want
    · have h1b : (r1 != want) = false := by simp [h1]
      rw [if_pos h1] at Hs
      clear h1
      obtain ⟨f0, f1, f2⟩ := Hbox1.out
      go_wp2_with fail
      clear f0 f1 f2
      refine (reads_any B d op n A len cap t true w1 (by omega) Hre1.out).mono ?_
      rintro e w2 ⟨O, m, c, rfl, hown, hm, hb2⟩
      have hz2 := hb2.size
      have Hb2 := hide (Hb1.out.trans (hb2.mono (by omega)))
      have Hre2 := hide (Hre1.out.below (hb2.mono (by omega)))
      have Hrv2 := hide (Hrv1.out.below (hb2.mono (by omega)))
      have Hbox2 := hide (Hbox1.out.below hb2 (by omega))
      have Hri := hide (own_ri hown)
      have hm6 : m ≤ 6 := by rw [← hm]; exact readsE_six _ _
      clear hb2 hown hm Hre1 Hrv1 Hbox1 Hb1
      have Hmem : Hid (∀ x ∈ readsE t true, ∃ i : Nat, i < 6 ∧ i < nv ∧ x = (i : Int)) := hide (Hin2.out true)
      generalize readsE t true = xs at *
      go_wp2_with fail
      refine (mayRead_any w2.heap.size Av nv cv lv O m c xs env sys w2 Hnv.out hm6 Hri.out (Hrv2.out.more (by omega)) Hmem.out).mono ?_
      rintro e w3 ⟨rfl, hb3⟩
      have hz3 := hb3.size
      have Hb3 := hide (Hb2.out.trans (hb3.mono (by omega)))
      have Hre3 := hide (Hre2.out.below (hb3.mono (by omega)))
      have Hrv3 := hide (Hrv2.out.below (hb3.mono (by omega)))
      have Hbox3 := hide (Hbox2.out.below hb3 (by omega))
      clear hb3 Hre2 Hrv2 Hbox2 Hb2 Hmem Hri
      generalize nextBad lv env sys xs = nb at *
      cases nb
      · rw [if_neg (by simp)] at Hs
        obtain ⟨f0, f1, f2⟩ := Hbox3.out
        go_wp2_with fail
        clear f0 f1 f2
        refine (reads_any B d op n A len cap t false w3 (by omega) Hre3.out).mono ?_
        rintro e w4 ⟨O2, m2, c2, rfl, hown, hm, hb4⟩
        have hz4 := hb4.size
        have Hb4 := hide (Hb3.out.trans (hb4.mono (by omega)))
        have Hrv4 := hide (Hrv3.out.below (hb4.mono (by omega)))
        have Hri2 := hide (own_ri hown)
        have hm62 : m2 ≤ 6 := by rw [← hm]; exact readsE_six _ _
        clear hb4 hown hm Hre3 Hrv3 Hbox3 Hb3
        have Hmem : Hid (∀ x ∈ readsE t false, ∃ i : Nat, i < 6 ∧ i < nv ∧ x = (i : Int)) := hide (Hin2.out false)
        generalize readsE t false = ys at *
        go_wp2_with fail
        refine (mayRead_any w4.heap.size Av nv cv lv O2 m2 c2 ys true now w4 Hnv.out hm62 Hri2.out (Hrv4.out.more (by omega)) Hmem.out).mono ?_
        rintro e w5 ⟨rfl, hb5⟩
        have Hb5 := hide (Hb4.out.trans (hb5.mono (by omega)))
        rw [now_next]
        clear hb5 Hrv4 Hb4 Hmem Hri2
        generalize nowBad lv now ys = nb at *
        cases nb
        · rw [if_neg (by simp)] at Hs
          go_wp2_with fail
          go_ret
          exact ⟨ret_int Hs.out.symm, Hb5.out⟩
        · rw [if_pos rfl] at Hs
          go_wp2_with fail
          go_ret
          exact ⟨ret_int Hs.out.symm, Hb5.out⟩
      · rw [if_pos rfl] at Hs
        go_wp2_with fail
        go_ret
        exact ⟨ret_int Hs.out.symm, Hb3.out⟩
    · have h1b : (r1 != want) = true := by simp [h1]
      rw [if_neg h1] at Hs
      clear h1
      go_wp2_with fail
      go_ret
      exact ⟨ret_int Hs.out.symm, Hb1.out⟩
  · have h2b : (r2 != 0) = true := by simp [h2]
    rw [if_neg h2] at Hs
    clear h2
    go_wp2_with fail
    go_ret
    exact ⟨ret_int Hs.out.symm, Hb1.out⟩
end Go.Proofs.YtbppdalfcldodaaGreat
