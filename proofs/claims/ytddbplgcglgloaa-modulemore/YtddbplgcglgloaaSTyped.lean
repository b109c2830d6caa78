/- The walk of the reference's typed. -/
import Derived.Test.YtddbplgcglgloaaMLaws
import Derived.Test.YtddbplgcglgloaaVRefC
namespace Go.Proofs.Ytddbplgcglgloaa
open Go.RowKit Ex
set_option linter.unusedSimpArgs false
set_option linter.unusedVariables false

def tyN (l : List Dom.V) (op n : Int) (ss : List Int) : Int × Int :=
  if op = 1 then (2, 0) else if op = 2 then (1, 0)
  else if op = 3 ∨ op = 4 then (if (l.length : Int) ≤ n then (0, 3) else (((l[n.toNat]?).map Dom.V.srt).getD 0, 0))
  else if op = 5 then (if ss.getD 0 0 = 1 then (1, 0) else (0, 4))
  else if op = 6 ∨ op = 7 ∨ op = 8 then (if ss.getD 0 0 = 1 ∧ ss.getD 1 0 = 1 then (1, 0) else (0, 4))
  else if op = 9 then (if ss.getD 0 0 = ss.getD 1 0 then (1, 0) else (0, 4))
  else if op = 15 then (if ss.getD 0 0 = 1 ∧ ss.getD 1 0 = ss.getD 2 0 then (ss.getD 1 0, 0) else (0, 4))
  else if ss.getD 0 0 = 2 ∧ ss.getD 1 0 = 2 then (if op = 10 ∨ op = 11 then (1, 0) else (2, 0)) else (0, 4)
mutual
def tyT (l : List Dom.V) : T → Int × Int
  | .mk op n ks => if (tyK l ks).2 = 0 then tyN l op n (tyK l ks).1 else (0, (tyK l ks).2)
def tyK (l : List Dom.V) : List T → List Int × Int
  | [] => ([], 0)
  | k :: r => if (tyT l k).2 = 0 then ((tyT l k).1 :: (tyK l r).1, (tyK l r).2) else ([], (tyT l k).2)
end
theorem tyT_eq (l : List Dom.V) (t : T) : tyT l t = if (tyK l t.kids).2 = 0 then tyN l t.op t.n (tyK l t.kids).1 else (0, (tyK l t.kids).2) := by cases t; rw [tyT]; rfl
theorem ret_two {a b c d : Int} (h : (a, b) = (c, d)) : Ending.returned (.tuple #[.int .i64 a, .int .i64 b]) = .returned (.tuple #[.int .i64 c, .int .i64 d]) := by
  injection h with h1 h2; rw [h1, h2]
theorem ret_pair {a b : Int} {p : Int × Int} (h : p = (a, b)) : Ending.returned (.tuple #[.int .i64 a, .int .i64 b]) = .returned (.tuple #[.int .i64 p.1, .int .i64 p.2]) := by rw [h]
def s3V (pre : List Int) : Nat → Value := fun i => .int .i64 (pre.getD i 0)
theorem s3_new (w : World) : (w.alloc (.cells #[.int .i64 0, .int .i64 0, .int .i64 0] 94)).rowIs w.heap.size 94 3 (s3V []) :=
  World.rowIs_alloc w _ 94 _ (fun i hi => by
    have h : i = 0 ∨ i = 1 ∨ i = 2 := by simp at hi; omega
    rcases h with rfl | rfl | rfl <;> rfl)
theorem s3_set {w : World} {g : Nat} {pre : List Int} (h : w.rowIs g 94 3 (s3V pre)) (x : Int) {k : Nat} (hk : pre.length = k) : (w.setCell ⟨g, k, none⟩ (.int .i64 x)).rowIs g 94 3 (s3V (pre ++ [x])) :=
  (h.set k (.int .i64 x)).congr (fun i hi => by
    by_cases e : i = k
    · rw [if_pos e, e, ← hk]; simp [s3V, List.getD]
    · rw [if_neg e]
      simp only [s3V, List.getD]
      by_cases hl : i < k
      · rw [List.getElem?_append_left (by omega)]
      · rw [List.getElem?_append_right (by omega), List.getElem?_eq_none (by omega : pre.length ≤ i), List.getElem?_eq_none (by simp; omega)])
theorem sound_op {t : T} (h : sound t = true) : 1 ≤ t.op ∧ t.op ≤ 15 ∧ t.kids.length ≤ 3 := by
  have h2 : (t.kids.length : Int) = kidsOf t.op := by
    rw [sound_eq, nodeB_eq, Bool.and_eq_true, Bool.and_eq_true] at h
    simpa using h.1.1
  unfold kidsOf at h2
  split at h2
  · omega
  · split at h2
    · omega
    · split at h2
      · omega
      · split at h2 <;> omega

set_option maxRecDepth 100000 in
set_option maxHeartbeats 40000000 in
theorem rtyped_any (B : Nat) (Av : Option Addr) (nv cv : Nat) (lv : List Dom.V) (hnv : nv ≤ maxLen) : ∀ (d : Nat) (op n : Int) (A : Option Addr) (len cap : Nat) (t : T) (w : World), B ≤ w.heap.size → RE w B d op n A len cap t → sound t = true → Dom.RV w B Av nv lv →
    Calls Try.prog 48 #[.slice Av nv cv, .agg #[.int .i64 op, .int .i64 n, .slice A len cap]] w fun e w' => e = .returned (.tuple #[.int .i64 (tyT lv t).1, .int .i64 (tyT lv t).2]) ∧ Below w.heap.size w w' := by
  intro d
  induction d with
  | zero => intro op n A len cap t w hB h; exact absurd h id
  | succ d ih =>
    intro op n A len cap t w hB hre hsd hrv
    have IH := hide ih; clear ih
    have Hre := hide hre
    have Hrv := hide hrv
    have Hnl := hide hrv.1
    obtain ⟨hx1, hx2, hlen, hcap, hmx, hx6⟩ := hre
    unfold maxLen at hmx hnv
    have Hlen := hide hlen
    have Hsd := hide hsd
    obtain ⟨ho1, ho2, hl3⟩ := sound_op hsd
    rw [hx1] at ho1 ho2
    rw [hlen] at hl3
    have Hty : Hid (tyT lv t = if (tyK lv t.kids).2 = 0 then tyN lv op n (tyK lv t.kids).1 else (0, (tyK lv t.kids).2)) := hide (by rw [tyT_eq, hx1, hx2])
    have Hnn : Hid ((op = 3 ∨ op = 4) → 0 ≤ n ∧ n < 6) := hide (fun ho => by
      have h := sound_n (op := op) hsd ho hx1
      rw [hx2] at h; exact h)
    clear hlen hx1 hx2 hx6 hsd hrv
    have hbB : Below w.heap.size w ((w.alloc (.cells #[.int .i64 op, .int .i64 n, .slice A len cap] 25)).alloc (.cells #[.int .i64 0, .int .i64 0, .int .i64 0] 94)) := ((Below.refl _ _).alloc (Nat.le_refl _) _).alloc (by simp) _
    have Hrow0 := s3_new (w.alloc (.cells #[.int .i64 op, .int .i64 n, .slice A len cap] 25))
    have hzA : (w.alloc (.cells #[.int .i64 op, .int .i64 n, .slice A len cap] 25)).heap.size = w.heap.size + 1 := by simp
    rw [hzA] at Hrow0
    have Hrow := hide Hrow0
    have hbox := (box_new w op n A len cap 25).below ((Below.refl (w.heap.size + 1) (w.alloc (.cells #[.int .i64 op, .int .i64 n, .slice A len cap] 25))).alloc (by simp) (.cells #[.int .i64 0, .int .i64 0, .int .i64 0] 94)) (by omega)
    have Hbox := hide hbox
    have hzB : ((w.alloc (.cells #[.int .i64 op, .int .i64 n, .slice A len cap] 25)).alloc (.cells #[.int .i64 0, .int .i64 0, .int .i64 0] 94)).heap.size = w.heap.size + 2 := by simp
    have HbB := hide hbB
    clear hbB Hrow0 hzA
    obtain ⟨f0, f1, f2⟩ := hbox
    go_enter Try.func48, Try.ntmps48
    go_wp2_with fail
    clear f0 f1 f2
    generalize (w.alloc (.cells #[.int .i64 op, .int .i64 n, .slice A len cap] 25)).alloc (.cells #[.int .i64 0, .int .i64 0, .int .i64 0] 94) = W at *
    go_loopw [14] (fun i wr => ∃ (k : Nat) (pre : List Int), k ≤ len ∧ i = .int .i64 k ∧ pre.length = k ∧ Hid ((tyK lv t.kids).2 = (tyK lv (t.kids.drop k)).2 ∧ ((tyK lv (t.kids.drop k)).2 = 0 → (tyK lv t.kids).1 = pre ++ (tyK lv (t.kids.drop k)).1)) ∧ wr.rowIs (w.heap.size + 1) 94 3 (s3V pre) ∧ Onl (w.heap.size + 1) W wr) (fun i _ => len - (intOf i).toNat)
    case atStart => exact ⟨0, [], by omega, rfl, rfl, hide ⟨rfl, fun _ => rfl⟩, Hrow.out, Onl.refl _ _⟩
    case round =>
      obtain ⟨k, pre, hk, rfl, hpl, HT, hrw, hon⟩ := hrel
      have Hrw := hide hrw
      have Hon := hide hon
      have hzr := hon.size
      have Hbw := hide (HbB.out.trans (hon.below (B := w.heap.size) (by omega) (by omega)))
      clear hrw hon
      by_cases hlt : k < len
      · have hlt' : ((k : Int) < (len : Int)) := by omega
        obtain ⟨b, off, u, op2, n2, A2, l2, c2, rfl, hbB2, hku, ⟨c0, c1, cs⟩, hre2⟩ := (Hre.out.below (Hbw.out.mono hB)).at_ hlt
        have Hsu := hide (soundK_at _ k u (sound_kids Hsd.out) hku)
        have Hdr : Hid (tyK lv (t.kids.drop k) = if (tyT lv u).2 = 0 then ((tyT lv u).1 :: (tyK lv (t.kids.drop (k + 1))).1, (tyK lv (t.kids.drop (k + 1))).2) else ([], (tyT lv u).2)) := hide (by rw [drop_at hku, tyK])
        clear hku
        have Hre3 := hide (hre2.below ((Below.refl B wr).alloc (by omega) (.cells #[.int .i64 op2, .int .i64 n2, .slice A2 l2 c2] 25)))
        have Hrv3 := hide ((Hrv.out.below (Hbw.out.mono hB)).below ((Below.refl B wr).alloc (by omega) (.cells #[.int .i64 op2, .int .i64 n2, .slice A2 l2 c2] 25)))
        clear hre2
        have hbz : B ≤ (wr.alloc (.cells #[.int .i64 op2, .int .i64 n2, .slice A2 l2 c2] 25)).heap.size := by simp; omega
        have hzk : (wr.alloc (.cells #[.int .i64 op2, .int .i64 n2, .slice A2 l2 c2] 25)).heap.size = wr.heap.size + 1 := by simp
        have Hrw2 := hide (Hrw.out.alloc (.cells #[.int .i64 op2, .int .i64 n2, .slice A2 l2 c2] 25))
        have Hon2 := hide (Hon.out.alloc (.cells #[.int .i64 op2, .int .i64 n2, .slice A2 l2 c2] 25))
        go_wp2_with fail
        refine (IH.out op2 n2 A2 l2 c2 u _ hbz Hre3.out Hsu.out Hrv3.out).mono ?_
        rintro e w3 ⟨rfl, hb3⟩
        have hz3 := hb3.size
        have Hrw3 := hide (Hrw2.out.of_block (hb3.block _ (by omega)))
        have Hon3 : Hid (Onl (w.heap.size + 1) W w3) := hide (Hon2.out.trans ⟨hb3.os, hb3.tape, hb3.output, hb3.size, fun i hi _ => hb3.block i hi⟩)
        clear hb3 c0 c1 cs Hre3 Hrv3 Hrw2 Hon2 hbz
        generalize tyT lv u = r at *
        obtain ⟨rx, re⟩ := r
        simp only at Hdr ⊢
        by_cases he : re = 0
        · have heb : (re != 0) = false := by simp [he]
          have HT2 : Hid ((tyK lv t.kids).2 = (tyK lv (t.kids.drop (k + 1))).2 ∧ ((tyK lv (t.kids.drop (k + 1))).2 = 0 → (tyK lv t.kids).1 = (pre ++ [rx]) ++ (tyK lv (t.kids.drop (k + 1))).1)) := hide (by
            have h := Hdr.out
            rw [if_pos he] at h
            have h2 := HT.out
            rw [h] at h2
            refine ⟨h2.1, fun h3 => ?_⟩
            rw [h2.2 h3]; simp)
          obtain ⟨v0, hv0⟩ : ∃ v, w3.cell? ⟨w.heap.size + 1, k, none⟩ = some v := ⟨_, Hrw3.out.cell (by omega)⟩
          have hfz := Hrw3.out.frozen k
          have Hset := hide (s3_set Hrw3.out rx hpl)
          have Hon4 := hide (Hon3.out.set k (.int .i64 rx))
          have hk3 : (k : Int) < 3 := by omega
          clear he Hdr
          go_wp2_with fail
          go_roundw
          case rel => exact ⟨k + 1, pre ++ [rx], by omega, by go_num, by simp [hpl], HT2, Hset.out, Hon4.out⟩
          case measure => simp [intOf]; omega
        · have heb : (re != 0) = true := by simp [he]
          have Hf : Hid (tyT lv t = (0, re)) := hide (by
            have h := Hdr.out
            rw [if_neg he] at h
            have h2 := HT.out
            rw [h] at h2
            rw [Hty.out, if_neg (by rw [h2.1]; exact he), h2.1])
          have Hbf := hide (HbB.out.trans (Hon3.out.below (B := w.heap.size) (by omega) (by omega)))
          clear he
          go_wp2_with fail
          go_ret2
          exact ⟨ret_pair Hf.out, Hbf.out⟩
      · have hlt' : ¬ ((k : Int) < (len : Int)) := by omega
        have Hf : Hid (tyT lv t = tyN lv op n pre) := hide (by
          have h : tyK lv (t.kids.drop k) = ([], 0) := by rw [List.drop_of_length_le (by rw [Hlen.out]; omega), tyK]
          have h2 := HT.out
          rw [h] at h2
          rw [Hty.out, if_pos h2.1, h2.2 rfl, List.append_nil])
        have hgb : w.heap.size ≠ w.heap.size + 1 := by omega
        have f0 := (Hon.out.cell (p := ⟨w.heap.size, 0, none⟩) (by show w.heap.size < W.heap.size; omega) (by exact hgb)).trans Hbox.out.1
        have f1 := (Hon.out.cell (p := ⟨w.heap.size, 1, none⟩) (by show w.heap.size < W.heap.size; omega) (by exact hgb)).trans Hbox.out.2.1
        have f2 := (Hon.out.cell (p := ⟨w.heap.size, 2, none⟩) (by show w.heap.size < W.heap.size; omega) (by exact hgb)).trans Hbox.out.2.2
        have s0 : wr.cell? ⟨w.heap.size + 1, 0, none⟩ = some (.int .i64 (pre.getD 0 0)) := Hrw.out.cell (i := 0) (by omega)
        have s1 : wr.cell? ⟨w.heap.size + 1, 1, none⟩ = some (.int .i64 (pre.getD 1 0)) := Hrw.out.cell (i := 1) (by omega)
        have s2 : wr.cell? ⟨w.heap.size + 1, 2, none⟩ = some (.int .i64 (pre.getD 2 0)) := Hrw.out.cell (i := 2) (by omega)
        have Hvr := hide (Hrv.out.below (Hbw.out.mono hB))
        clear hgb HT Hty Hrw Hon Hbox HbB hpl Hre Hlen Hsd hlt Hrow Hrv
        unfold tyN at Hf
        generalize pre.getD 0 0 = v0 at *
        generalize pre.getD 1 0 = v1 at *
        generalize pre.getD 2 0 = v2 at *
        clear pre
        have hop : op = 1 ∨ op = 2 ∨ op = 3 ∨ op = 4 ∨ op = 5 ∨ op = 6 ∨ op = 7 ∨ op = 8 ∨ op = 9 ∨ op = 10 ∨ op = 11 ∨ op = 12 ∨ op = 13 ∨ op = 14 ∨ op = 15 := by omega
        clear ho1 ho2
        rcases hop with rfl | rfl | rfl | rfl | rfl | rfl | rfl | rfl | rfl | rfl | rfl | rfl | rfl | rfl | rfl
        · have HF : Hid (tyT lv t = (2, 0)) := hide (Hf.out.trans (by simp))
          clear Hf
          go_wp2_with fail
          go_ret2
          exact ⟨ret_pair HF.out, Hbw.out⟩
        · have HF : Hid (tyT lv t = (1, 0)) := hide (Hf.out.trans (by simp))
          clear Hf
          go_wp2_with fail
          go_ret2
          exact ⟨ret_pair HF.out, Hbw.out⟩
        · obtain ⟨n0, n6⟩ := Hnn.out (by omega)
          obtain ⟨q, rfl⟩ := Int.eq_ofNat_of_zero_le n0
          by_cases hn : nv ≤ q
          · have hnb : decide ((nv : Int) ≤ (q : Int)) = true := by simp; omega
            have hnc : decide (nv ≤ q) = true := by simp; omega
            have HF : Hid (tyT lv t = (0, 3)) := hide (Hf.out.trans (by simp [Hnl.out, hn]))
            clear Hf hn
            go_wp2_with fail
            go_ret2
            exact ⟨ret_pair HF.out, Hbw.out⟩
          · have hnb : decide ((nv : Int) ≤ (q : Int)) = false := by simp; omega
            have hnc : decide (nv ≤ q) = false := by simp; omega
            obtain ⟨b, off, v, rfl, hvb, hvq, g0, g1, g2, g3, g4⟩ := Hvr.out.at_ (k := q) (by omega)
            have hqn : (q : Int) < (nv : Int) := by omega
            have HF : Hid (tyT lv t = (v.srt, 0)) := hide (Hf.out.trans (by simp [Hnl.out, hn, hvq]))
            clear Hf hn hvq
            go_wp2_with fail
            go_ret2
            exact ⟨ret_pair HF.out, Hbw.out⟩
        · obtain ⟨n0, n6⟩ := Hnn.out (by omega)
          obtain ⟨q, rfl⟩ := Int.eq_ofNat_of_zero_le n0
          by_cases hn : nv ≤ q
          · have hnb : decide ((nv : Int) ≤ (q : Int)) = true := by simp; omega
            have hnc : decide (nv ≤ q) = true := by simp; omega
            have HF : Hid (tyT lv t = (0, 3)) := hide (Hf.out.trans (by simp [Hnl.out, hn]))
            clear Hf hn
            go_wp2_with fail
            go_ret2
            exact ⟨ret_pair HF.out, Hbw.out⟩
          · have hnb : decide ((nv : Int) ≤ (q : Int)) = false := by simp; omega
            have hnc : decide (nv ≤ q) = false := by simp; omega
            obtain ⟨b, off, v, rfl, hvb, hvq, g0, g1, g2, g3, g4⟩ := Hvr.out.at_ (k := q) (by omega)
            have hqn : (q : Int) < (nv : Int) := by omega
            have HF : Hid (tyT lv t = (v.srt, 0)) := hide (Hf.out.trans (by simp [Hnl.out, hn, hvq]))
            clear Hf hn hvq
            go_wp2_with fail
            go_ret2
            exact ⟨ret_pair HF.out, Hbw.out⟩
        · by_cases h0 : v0 = 1
          · have b0 : (v0 != 1) = false := by simp [h0]
            have HF : Hid (tyT lv t = (1, 0)) := hide (Hf.out.trans (by simp [h0]))
            clear Hf h0
            go_wp2_with fail
            go_ret2
            exact ⟨ret_pair HF.out, Hbw.out⟩
          · have b0 : (v0 != 1) = true := by simp [h0]
            have HF : Hid (tyT lv t = (0, 4)) := hide (Hf.out.trans (by simp [h0]))
            clear Hf h0
            go_wp2_with fail
            go_ret2
            exact ⟨ret_pair HF.out, Hbw.out⟩
        · by_cases h0 : v0 = 1
          · have b0 : (v0 != 1) = false := by simp [h0]
            by_cases h1 : v1 = 1
            · have b1 : (v1 != 1) = false := by simp [h1]
              have HF : Hid (tyT lv t = (1, 0)) := hide (Hf.out.trans (by simp [h0, h1]))
              clear Hf h0 h1
              go_wp2_with fail
              go_ret2
              exact ⟨ret_pair HF.out, Hbw.out⟩
            · have b1 : (v1 != 1) = true := by simp [h1]
              have HF : Hid (tyT lv t = (0, 4)) := hide (Hf.out.trans (by simp [h0, h1]))
              clear Hf h0 h1
              go_wp2_with fail
              go_ret2
              exact ⟨ret_pair HF.out, Hbw.out⟩
          · have b0 : (v0 != 1) = true := by simp [h0]
            have HF : Hid (tyT lv t = (0, 4)) := hide (Hf.out.trans (by simp [h0]))
            clear Hf h0
            go_wp2_with fail
            go_ret2
            exact ⟨ret_pair HF.out, Hbw.out⟩
        · by_cases h0 : v0 = 1
          · have b0 : (v0 != 1) = false := by simp [h0]
            by_cases h1 : v1 = 1
            · have b1 : (v1 != 1) = false := by simp [h1]
              have HF : Hid (tyT lv t = (1, 0)) := hide (Hf.out.trans (by simp [h0, h1]))
              clear Hf h0 h1
              go_wp2_with fail
              go_ret2
              exact ⟨ret_pair HF.out, Hbw.out⟩
            · have b1 : (v1 != 1) = true := by simp [h1]
              have HF : Hid (tyT lv t = (0, 4)) := hide (Hf.out.trans (by simp [h0, h1]))
              clear Hf h0 h1
              go_wp2_with fail
              go_ret2
              exact ⟨ret_pair HF.out, Hbw.out⟩
          · have b0 : (v0 != 1) = true := by simp [h0]
            have HF : Hid (tyT lv t = (0, 4)) := hide (Hf.out.trans (by simp [h0]))
            clear Hf h0
            go_wp2_with fail
            go_ret2
            exact ⟨ret_pair HF.out, Hbw.out⟩
        · by_cases h0 : v0 = 1
          · have b0 : (v0 != 1) = false := by simp [h0]
            by_cases h1 : v1 = 1
            · have b1 : (v1 != 1) = false := by simp [h1]
              have HF : Hid (tyT lv t = (1, 0)) := hide (Hf.out.trans (by simp [h0, h1]))
              clear Hf h0 h1
              go_wp2_with fail
              go_ret2
              exact ⟨ret_pair HF.out, Hbw.out⟩
            · have b1 : (v1 != 1) = true := by simp [h1]
              have HF : Hid (tyT lv t = (0, 4)) := hide (Hf.out.trans (by simp [h0, h1]))
              clear Hf h0 h1
              go_wp2_with fail
              go_ret2
              exact ⟨ret_pair HF.out, Hbw.out⟩
          · have b0 : (v0 != 1) = true := by simp [h0]
            have HF : Hid (tyT lv t = (0, 4)) := hide (Hf.out.trans (by simp [h0]))
            clear Hf h0
            go_wp2_with fail
            go_ret2
            exact ⟨ret_pair HF.out, Hbw.out⟩
        · by_cases h0 : v0 = v1
          · have b0 : (v0 != v1) = false := by simp [h0]
            have HF : Hid (tyT lv t = (1, 0)) := hide (Hf.out.trans (by simp [h0]))
            clear Hf h0
            go_wp2_with fail
            go_ret2
            exact ⟨ret_pair HF.out, Hbw.out⟩
          · have b0 : (v0 != v1) = true := by simp [h0]
            have HF : Hid (tyT lv t = (0, 4)) := hide (Hf.out.trans (by simp [h0]))
            clear Hf h0
            go_wp2_with fail
            go_ret2
            exact ⟨ret_pair HF.out, Hbw.out⟩
        · by_cases h0 : v0 = 2
          · have b0 : (v0 != 2) = false := by simp [h0]
            by_cases h1 : v1 = 2
            · have b1 : (v1 != 2) = false := by simp [h1]
              have HF : Hid (tyT lv t = (1, 0)) := hide (Hf.out.trans (by simp [h0, h1]))
              clear Hf h0 h1
              go_wp2_with fail
              go_ret2
              exact ⟨ret_pair HF.out, Hbw.out⟩
            · have b1 : (v1 != 2) = true := by simp [h1]
              have HF : Hid (tyT lv t = (0, 4)) := hide (Hf.out.trans (by simp [h0, h1]))
              clear Hf h0 h1
              go_wp2_with fail
              go_ret2
              exact ⟨ret_pair HF.out, Hbw.out⟩
          · have b0 : (v0 != 2) = true := by simp [h0]
            have HF : Hid (tyT lv t = (0, 4)) := hide (Hf.out.trans (by simp [h0]))
            clear Hf h0
            go_wp2_with fail
            go_ret2
            exact ⟨ret_pair HF.out, Hbw.out⟩
        · by_cases h0 : v0 = 2
          · have b0 : (v0 != 2) = false := by simp [h0]
            by_cases h1 : v1 = 2
            · have b1 : (v1 != 2) = false := by simp [h1]
              have HF : Hid (tyT lv t = (1, 0)) := hide (Hf.out.trans (by simp [h0, h1]))
              clear Hf h0 h1
              go_wp2_with fail
              go_ret2
              exact ⟨ret_pair HF.out, Hbw.out⟩
            · have b1 : (v1 != 2) = true := by simp [h1]
              have HF : Hid (tyT lv t = (0, 4)) := hide (Hf.out.trans (by simp [h0, h1]))
              clear Hf h0 h1
              go_wp2_with fail
              go_ret2
              exact ⟨ret_pair HF.out, Hbw.out⟩
          · have b0 : (v0 != 2) = true := by simp [h0]
            have HF : Hid (tyT lv t = (0, 4)) := hide (Hf.out.trans (by simp [h0]))
            clear Hf h0
            go_wp2_with fail
            go_ret2
            exact ⟨ret_pair HF.out, Hbw.out⟩
        · by_cases h0 : v0 = 2
          · have b0 : (v0 != 2) = false := by simp [h0]
            by_cases h1 : v1 = 2
            · have b1 : (v1 != 2) = false := by simp [h1]
              have HF : Hid (tyT lv t = (2, 0)) := hide (Hf.out.trans (by simp [h0, h1]))
              clear Hf h0 h1
              go_wp2_with fail
              go_ret2
              exact ⟨ret_pair HF.out, Hbw.out⟩
            · have b1 : (v1 != 2) = true := by simp [h1]
              have HF : Hid (tyT lv t = (0, 4)) := hide (Hf.out.trans (by simp [h0, h1]))
              clear Hf h0 h1
              go_wp2_with fail
              go_ret2
              exact ⟨ret_pair HF.out, Hbw.out⟩
          · have b0 : (v0 != 2) = true := by simp [h0]
            have HF : Hid (tyT lv t = (0, 4)) := hide (Hf.out.trans (by simp [h0]))
            clear Hf h0
            go_wp2_with fail
            go_ret2
            exact ⟨ret_pair HF.out, Hbw.out⟩
        · by_cases h0 : v0 = 2
          · have b0 : (v0 != 2) = false := by simp [h0]
            by_cases h1 : v1 = 2
            · have b1 : (v1 != 2) = false := by simp [h1]
              have HF : Hid (tyT lv t = (2, 0)) := hide (Hf.out.trans (by simp [h0, h1]))
              clear Hf h0 h1
              go_wp2_with fail
              go_ret2
              exact ⟨ret_pair HF.out, Hbw.out⟩
            · have b1 : (v1 != 2) = true := by simp [h1]
              have HF : Hid (tyT lv t = (0, 4)) := hide (Hf.out.trans (by simp [h0, h1]))
              clear Hf h0 h1
              go_wp2_with fail
              go_ret2
              exact ⟨ret_pair HF.out, Hbw.out⟩
          · have b0 : (v0 != 2) = true := by simp [h0]
            have HF : Hid (tyT lv t = (0, 4)) := hide (Hf.out.trans (by simp [h0]))
            clear Hf h0
            go_wp2_with fail
            go_ret2
            exact ⟨ret_pair HF.out, Hbw.out⟩
        · by_cases h0 : v0 = 2
          · have b0 : (v0 != 2) = false := by simp [h0]
            by_cases h1 : v1 = 2
            · have b1 : (v1 != 2) = false := by simp [h1]
              have HF : Hid (tyT lv t = (2, 0)) := hide (Hf.out.trans (by simp [h0, h1]))
              clear Hf h0 h1
              go_wp2_with fail
              go_ret2
              exact ⟨ret_pair HF.out, Hbw.out⟩
            · have b1 : (v1 != 2) = true := by simp [h1]
              have HF : Hid (tyT lv t = (0, 4)) := hide (Hf.out.trans (by simp [h0, h1]))
              clear Hf h0 h1
              go_wp2_with fail
              go_ret2
              exact ⟨ret_pair HF.out, Hbw.out⟩
          · have b0 : (v0 != 2) = true := by simp [h0]
            have HF : Hid (tyT lv t = (0, 4)) := hide (Hf.out.trans (by simp [h0]))
            clear Hf h0
            go_wp2_with fail
            go_ret2
            exact ⟨ret_pair HF.out, Hbw.out⟩
        · by_cases h0 : v0 = 1
          · have b0 : (v0 != 1) = false := by simp [h0]
            by_cases h1 : v1 = v2
            · have b1 : (v1 != v2) = false := by simp [h1]
              have HF : Hid (tyT lv t = (v1, 0)) := hide (Hf.out.trans (by simp [h0, h1]))
              clear Hf h0 h1
              go_wp2_with fail
              go_ret2
              exact ⟨ret_pair HF.out, Hbw.out⟩
            · have b1 : (v1 != v2) = true := by simp [h1]
              have HF : Hid (tyT lv t = (0, 4)) := hide (Hf.out.trans (by simp [h0, h1]))
              clear Hf h0 h1
              go_wp2_with fail
              go_ret2
              exact ⟨ret_pair HF.out, Hbw.out⟩
          · have b0 : (v0 != 1) = true := by simp [h0]
            have HF : Hid (tyT lv t = (0, 4)) := hide (Hf.out.trans (by simp [h0]))
            clear Hf h0
            go_wp2_with fail
            go_ret2
            exact ⟨ret_pair HF.out, Hbw.out⟩
end Go.Proofs.Ytddbplgcglgloaa
