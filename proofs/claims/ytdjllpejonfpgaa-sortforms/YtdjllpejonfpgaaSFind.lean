/- The walk of the program's find: the sort of a valid expression. -/
import Derived.Test.YtdjllpejonfpgaaSJoin
namespace Go.Proofs.Ytdjllpejonfpgaa
open Go.RowKit Ex
set_option linter.unusedSimpArgs false
set_option linter.unusedVariables false

theorem mk_new (w : World) (n : Nat) : (w.alloc (.cells (Array.replicate n (.int .i64 0)) 3)).rowIs w.heap.size 3 n (s3V []) := by
  have h := World.rowIs_alloc w (Array.replicate n (.int .i64 0)) 3 (s3V []) (fun i hi => by simp [s3V, List.getD, Array.getElem?_replicate] at hi ⊢; exact hi)
  simpa using h
theorem sN_set {w : World} {g n : Nat} {pre : List Int} (h : w.rowIs g 3 n (s3V pre)) (x : Int) {k : Nat} (hk : pre.length = k) : (w.setCell ⟨g, k, none⟩ (.int .i64 x)).rowIs g 3 n (s3V (pre ++ [x])) :=
  (h.set k (.int .i64 x)).congr (fun i hi => by
    by_cases e : i = k
    · rw [if_pos e, e, ← hk]; simp [s3V, List.getD]
    · rw [if_neg e]
      simp only [s3V, List.getD]
      by_cases hl : i < k
      · rw [List.getElem?_append_left (by omega)]
      · rw [List.getElem?_append_right (by omega), List.getElem?_eq_none (by omega : pre.length ≤ i), List.getElem?_eq_none (by simp; omega)])
theorem row_ri {w : World} {g n B : Nat} {pre : List Int} (h : w.rowIs g 3 n (s3V pre)) (hl : pre.length = n) (hg : g < B) : RI w B (some ⟨g, 0, none⟩) n pre :=
  ⟨hl, fun _ => ⟨g, 0, rfl, hg, fun k x hx => by
    have hk : k < n := by rw [← hl]; exact (List.getElem?_eq_some_iff.1 hx).1
    have := h.cell hk
    rw [Nat.zero_add, this]
    simp [s3V, List.getD, hx]⟩⟩
theorem sound_k {t : T} (h : sound t = true) : (t.kids.length : Int) = kidsOf t.op := by
  rw [sound_eq, nodeB_eq, Bool.and_eq_true, Bool.and_eq_true] at h
  simpa using h.1.1

set_option maxRecDepth 100000 in
set_option maxHeartbeats 40000000 in
theorem find_any (B : Nat) (Av : Option Addr) (nv cv : Nat) (lv : List Dom.V) (hnv : nv ≤ maxLen) : ∀ (d : Nat) (op n : Int) (A : Option Addr) (len cap : Nat) (t : T) (w : World), B ≤ w.heap.size → RE w B d op n A len cap t → sound t = true → Dom.RV w B Av nv lv →
    Calls Try.prog 22 #[.slice Av nv cv, .agg #[.int .i64 op, .int .i64 n, .slice A len cap]] w fun e w' => e = .returned (.tuple #[.int .i64 (tyT lv t).1, .int .i64 (tyT lv t).2]) ∧ Below w.heap.size w w' := by
  intro d
  induction d with
  | zero => intro op n A len cap t w hB h; exact absurd h id
  | succ d ih =>
    intro op n A len cap t w hB hre hsd hrv
    have IH := hide ih; clear ih
    have Hre := hide hre
    have Hrv := hide hrv
    have Hnl := hide hrv.1
    obtain ⟨hx1, hx2, hlen, hcap, hmx, hx6⟩ := hre
    unfold maxLen at hmx hnv
    have Hlen := hide hlen
    have Hsd := hide hsd
    obtain ⟨ho1, ho2, hl3⟩ := sound_op hsd
    have hkk := sound_k hsd
    rw [hx1] at ho1 ho2 hkk
    rw [hlen] at hl3 hkk
    have Hty : Hid (tyT lv t = if (tyK lv t.kids).2 = 0 then tyN lv op n (tyK lv t.kids).1 else (0, (tyK lv t.kids).2)) := hide (by rw [tyT_eq, hx1, hx2])
    have Hnn : Hid ((op = 3 ∨ op = 4) → 0 ≤ n ∧ n < 6) := hide (fun ho => by
      have h := sound_n (op := op) hsd ho hx1
      rw [hx2] at h; exact h)
    have Hkk := hide hkk
    clear hlen hx1 hx2 hx6 hsd hrv hkk
    by_cases hv : op = 3 ∨ op = 4
    · have Hk0 : Hid (tyT lv t = tyN lv op n []) := hide (by
        have h0 : t.kids = [] := List.length_eq_zero_iff.1 (by
          have h := Hkk.out
          rw [Hlen.out]
          rcases hv with rfl | rfl <;> simp [kidsOf] at h <;> exact h)
        rw [Hty.out, h0, tyK]; rfl)
      obtain ⟨n0, n6⟩ := Hnn.out hv
      obtain ⟨q, rfl⟩ := Int.eq_ofNat_of_zero_le n0
      have hbA : Below w.heap.size w (w.alloc (.cells #[.int .i64 op, .int .i64 (q : Int), .slice A len cap] 25)) := (Below.refl _ _).alloc (Nat.le_refl _) _
      have HbA := hide hbA
      have Hvr := hide (Hrv.out.below (hbA.mono hB))
      obtain ⟨f0, f1, f2⟩ := box_new w op q A len cap 25
      clear hbA Hre Hrv IH Hty Hnn Hkk Hsd Hlen n0 ho1 ho2
      by_cases hn : nv ≤ q
      · have hnb : decide ((nv : Int) ≤ (q : Int)) = true := by simp; omega
        have hnc : decide (nv ≤ q) = true := by simp; omega
        have HF : Hid (tyT lv t = (0, 3)) := hide (Hk0.out.trans (by rcases hv with rfl | rfl <;> simp [tyN, Hnl.out, hn]))
        clear Hk0 hn
        rcases hv with rfl | rfl
        all_goals
          go_enter Try.func22, Try.ntmps22
          go_wp2_with fail
          go_ret2
          exact ⟨ret_pair HF.out, HbA.out⟩
      · have hnb : decide ((nv : Int) ≤ (q : Int)) = false := by simp; omega
        have hnc : decide (nv ≤ q) = false := by simp; omega
        obtain ⟨b, off, v, rfl, hvb, hvq, g0, g1, g2, g3, g4⟩ := Hvr.out.at_ (k := q) (by omega)
        have hqn : (q : Int) < (nv : Int) := by omega
        have HF : Hid (tyT lv t = (v.srt, 0)) := hide (Hk0.out.trans (by rcases hv with rfl | rfl <;> simp [tyN, Hnl.out, hn, hvq]))
        clear Hk0 hn hvq
        rcases hv with rfl | rfl
        all_goals
          go_enter Try.func22, Try.ntmps22
          go_wp2_with fail
          go_ret2
          exact ⟨ret_pair HF.out, HbA.out⟩
    · have hv3 : (op == 3) = false := by simp; omega
      have hv4 : (op == 4) = false := by simp; omega
      have hmk : ∀ w : World, (Instr.makeSlice 36 (.int .i64 (len : Int)) (.int .i64 (len : Int))).run Try.prog w = .ok (.slice (some ⟨w.heap.size, 0, none⟩) len len) (w.alloc (.cells (Array.replicate len (.int .i64 0)) 3)) := by
        have h : len = 0 ∨ len = 1 ∨ len = 2 ∨ len = 3 := by omega
        rcases h with rfl | rfl | rfl | rfl
        all_goals
          intro w
          kernel_rfl
      have Hne3 : Hid (op ≠ 3 ∧ op ≠ 4) := hide (by omega)
      clear hv
      have hbB : Below w.heap.size w ((w.alloc (.cells #[.int .i64 op, .int .i64 n, .slice A len cap] 25)).alloc (.cells (Array.replicate len (.int .i64 0)) 3)) := ((Below.refl _ _).alloc (Nat.le_refl _) _).alloc (by simp) _
      have Hrow0 := mk_new (w.alloc (.cells #[.int .i64 op, .int .i64 n, .slice A len cap] 25)) len
      have hzA : (w.alloc (.cells #[.int .i64 op, .int .i64 n, .slice A len cap] 25)).heap.size = w.heap.size + 1 := by simp
      rw [hzA] at Hrow0
      have Hrow := hide Hrow0
      have hbox0 := box_new w op n A len cap 25
      have hbox := hbox0.below ((Below.refl (w.heap.size + 1) (w.alloc (.cells #[.int .i64 op, .int .i64 n, .slice A len cap] 25))).alloc (by simp) (.cells (Array.replicate len (.int .i64 0)) 3)) (by omega)
      have Hbox := hide hbox
      have hzB : ((w.alloc (.cells #[.int .i64 op, .int .i64 n, .slice A len cap] 25)).alloc (.cells (Array.replicate len (.int .i64 0)) 3)).heap.size = w.heap.size + 2 := by simp
      have HbB := hide hbB
      clear hbB Hrow0 hzA
      obtain ⟨e0, e1, e2⟩ := hbox0
      obtain ⟨f0, f1, f2⟩ := hbox
      go_enter Try.func22, Try.ntmps22
      go_wp2_with fail
      clear f0 f1 f2 e0 e1 e2 hmk hv3 hv4
      generalize (w.alloc (.cells #[.int .i64 op, .int .i64 n, .slice A len cap] 25)).alloc (.cells (Array.replicate len (.int .i64 0)) 3) = W at *
      go_loopw [37] (fun i wr => ∃ (k : Nat) (pre : List Int), k ≤ len ∧ i = .int .i64 k ∧ pre.length = k ∧ Hid ((tyK lv t.kids).2 = (tyK lv (t.kids.drop k)).2 ∧ ((tyK lv (t.kids.drop k)).2 = 0 → (tyK lv t.kids).1 = pre ++ (tyK lv (t.kids.drop k)).1)) ∧ wr.rowIs (w.heap.size + 1) 3 len (s3V pre) ∧ Onl (w.heap.size + 1) W wr) (fun i _ => len - (intOf i).toNat)
      case atStart => exact ⟨0, [], by omega, rfl, rfl, hide ⟨rfl, fun _ => rfl⟩, Hrow.out, Onl.refl _ _⟩
      case round =>
        obtain ⟨k, pre, hk, rfl, hpl, HT, hrw, hon⟩ := hrel
        have Hrw := hide hrw
        have Hon := hide hon
        have hzr := hon.size
        have Hbw := hide (HbB.out.trans (hon.below (B := w.heap.size) (by omega) (by omega)))
        clear hrw hon
        by_cases hlt : k < len
        · have hlt' : ((k : Int) < (len : Int)) := by omega
          obtain ⟨b, off, u, op2, n2, A2, l2, c2, rfl, hbB2, hku, ⟨c0, c1, cs⟩, hre2⟩ := (Hre.out.below (Hbw.out.mono hB)).at_ hlt
          have Hsu := hide (soundK_at _ k u (sound_kids Hsd.out) hku)
          have Hdr : Hid (tyK lv (t.kids.drop k) = if (tyT lv u).2 = 0 then ((tyT lv u).1 :: (tyK lv (t.kids.drop (k + 1))).1, (tyK lv (t.kids.drop (k + 1))).2) else ([], (tyT lv u).2)) := hide (by rw [drop_at hku, tyK])
          clear hku
          have Hre3 := hide (hre2.below ((Below.refl B wr).alloc (by omega) (.cells #[.int .i64 op2, .int .i64 n2, .slice A2 l2 c2] 25)))
          have Hrv3 := hide ((Hrv.out.below (Hbw.out.mono hB)).below ((Below.refl B wr).alloc (by omega) (.cells #[.int .i64 op2, .int .i64 n2, .slice A2 l2 c2] 25)))
          clear hre2
          have hbz : B ≤ (wr.alloc (.cells #[.int .i64 op2, .int .i64 n2, .slice A2 l2 c2] 25)).heap.size := by simp; omega
          have hzk : (wr.alloc (.cells #[.int .i64 op2, .int .i64 n2, .slice A2 l2 c2] 25)).heap.size = wr.heap.size + 1 := by simp
          have Hrw2 := hide (Hrw.out.alloc (.cells #[.int .i64 op2, .int .i64 n2, .slice A2 l2 c2] 25))
          have Hon2 := hide (Hon.out.alloc (.cells #[.int .i64 op2, .int .i64 n2, .slice A2 l2 c2] 25))
          go_wp2_with fail
          refine (IH.out op2 n2 A2 l2 c2 u _ hbz Hre3.out Hsu.out Hrv3.out).mono ?_
          rintro e w3 ⟨rfl, hb3⟩
          have hz3 := hb3.size
          have Hrw3 := hide (Hrw2.out.of_block (hb3.block _ (by omega)))
          have Hon3 : Hid (Onl (w.heap.size + 1) W w3) := hide (Hon2.out.trans ⟨hb3.os, hb3.tape, hb3.output, hb3.size, fun i hi _ => hb3.block i hi⟩)
          clear hb3 c0 c1 cs Hre3 Hrv3 Hrw2 Hon2 hbz
          generalize tyT lv u = r at *
          obtain ⟨rx, re⟩ := r
          simp only at Hdr ⊢
          by_cases he : re = 0
          · have heb : (re != 0) = false := by simp [he]
            have HT2 : Hid ((tyK lv t.kids).2 = (tyK lv (t.kids.drop (k + 1))).2 ∧ ((tyK lv (t.kids.drop (k + 1))).2 = 0 → (tyK lv t.kids).1 = (pre ++ [rx]) ++ (tyK lv (t.kids.drop (k + 1))).1)) := hide (by
              have h := Hdr.out
              rw [if_pos he] at h
              have h2 := HT.out
              rw [h] at h2
              refine ⟨h2.1, fun h3 => ?_⟩
              rw [h2.2 h3]; simp)
            obtain ⟨v0, hv0⟩ : ∃ v, w3.cell? ⟨w.heap.size + 1, k, none⟩ = some v := ⟨_, Hrw3.out.cell (by omega)⟩
            have hfz := Hrw3.out.frozen k
            have Hset := hide (sN_set Hrw3.out rx hpl)
            have Hon4 := hide (Hon3.out.set k (.int .i64 rx))
            clear he Hdr
            go_wp2_with fail
            go_roundw
            case rel => exact ⟨k + 1, pre ++ [rx], by omega, by go_num, by simp [hpl], HT2, Hset.out, Hon4.out⟩
            case measure => simp [intOf]; omega
          · have heb : (re != 0) = true := by simp [he]
            have Hf : Hid (tyT lv t = (0, re)) := hide (by
              have h := Hdr.out
              rw [if_neg he] at h
              have h2 := HT.out
              rw [h] at h2
              rw [Hty.out, if_neg (by rw [h2.1]; exact he), h2.1])
            have Hbf := hide (HbB.out.trans (Hon3.out.below (B := w.heap.size) (by omega) (by omega)))
            clear he
            go_wp2_with fail
            go_ret2
            exact ⟨ret_pair Hf.out, Hbf.out⟩
        · have hlt' : ¬ ((k : Int) < (len : Int)) := by omega
          obtain rfl : k = len := by omega
          have Hf : Hid (tyT lv t = tyN lv op n pre) := hide (by
            have h : tyK lv (t.kids.drop k) = ([], 0) := by rw [List.drop_of_length_le (by rw [Hlen.out]; omega), tyK]
            have h2 := HT.out
            rw [h] at h2
            rw [Hty.out, if_pos h2.1, h2.2 rfl, List.append_nil])
          have hgb : w.heap.size ≠ w.heap.size + 1 := by omega
          have f0 := (Hon.out.cell (p := ⟨w.heap.size, 0, none⟩) (by show w.heap.size < W.heap.size; omega) (by exact hgb)).trans Hbox.out.1
          have Hri := hide (row_ri Hrw.out hpl (B := wr.heap.size) (by omega))
          clear hgb HT Hty Hon Hbox HbB Hrow
          go_wp2_with fail
          refine (join_any wr.heap.size lv n op _ k k pre wr (Nat.le_refl _) ho1 ho2 Hne3.out.1 Hne3.out.2 Hkk.out (Nat.le_refl _) (by unfold maxLen; omega) Hri.out).mono ?_
          rintro e w3 ⟨rfl, hb3⟩
          have Hbf := hide (Hbw.out.trans (hb3.mono (by have := Hbw.out.size; omega)))
          clear hb3 f0
          generalize tyN lv op n pre = r at *
          obtain ⟨rx, re⟩ := r
          simp only
          go_wp2_with fail
          go_ret2
          exact ⟨ret_pair Hf.out, Hbf.out⟩
end Go.Proofs.Ytdjllpejonfpgaa
