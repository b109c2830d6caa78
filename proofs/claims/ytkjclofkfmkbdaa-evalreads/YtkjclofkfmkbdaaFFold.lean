/- The walk of the reference's fold. -/
import Derived.Test.YtkjclofkfmkbdaaFMath
namespace Go.Proofs.Ytkjclofkfmkbdaa
open Go.RowKit Ex
set_option linter.unusedSimpArgs false
set_option linter.unusedVariables false

set_option maxRecDepth 100000 in
set_option maxHeartbeats 4000000 in
theorem fold_any (B : Nat) (Av : Option Addr) (nv cv : Nat) (lv : List Dom.V) (hnv : nv ≤ maxLen) : ∀ (d : Nat) (op n : Int) (A : Option Addr) (len cap : Nat) (t : T) (w : World), B ≤ w.heap.size → RE w B d op n A len cap t → mayE t = 0 → Dom.RV w B Av nv lv →
    Calls Try.prog 42 #[.slice Av nv cv, .agg #[.int .i64 op, .int .i64 n, .slice A len cap]] w (TreePost d (foldT lv t) w) := by
  intro d
  induction d with
  | zero => intro op n A len cap t w hB h; exact absurd h id
  | succ d ih =>
    intro op n A len cap t w hB hre hmay hrv
    have IH := hide ih; clear ih
    have Hmx : Hid (cap ≤ 2 ^ 63 - 1) := hide hre.2.2.2.2.1
    have hcap := hre.2.2.2.1
    have hmx : cap ≤ 2 ^ 63 - 1 := hre.2.2.2.2.1
    have Hlen := hide hre.2.2.1
    have hsd := may_sound hmay
    have Hsd := hide hsd
    have Hmay := hide hmay
    have Hfe : Hid (foldT lv t = if noRd t = true then (match vT [] [] t with
      | some x => .mk (if (tyT lv t).1 = 1 then 2 else 1) x []
      | none => .mk op n (foldK lv t.kids)) else .mk op n (foldK lv t.kids)) := hide (by rw [foldT_eq, hre.1, hre.2.1]; rfl)
    have hl3 : len ≤ 3 := by rw [← hre.2.2.1]; exact (sound_op hsd).2.2
    have Hrn := hide (reads_none hmay)
    obtain ⟨i0, hi0, hz0, hz1, hz2⟩ := info_parts info25
    have Hi0 := hide hi0; have Hz0 := hide hz0; have Hz1 := hide hz1; have Hz2 := hide hz2
    have hbA : Below w.heap.size w ((w.alloc (.cells #[.int .i64 op, .int .i64 n, .slice A len cap] 25)).alloc (.cells #[.int .i64 0, .int .i64 0, .slice none 0 0] 25)) := ((Below.refl _ _).alloc (Nat.le_refl _) _).alloc (by simp) _
    have Hre := hide (hre.below (hbA.mono hB))
    have Hrv := hide (hrv.below (hbA.mono hB))
    have hr1 := bxE_new (w.alloc (.cells #[.int .i64 op, .int .i64 n, .slice A len cap] 25)) 0 0 none 0 0
    have hzA : ((w.alloc (.cells #[.int .i64 op, .int .i64 n, .slice A len cap] 25)).alloc (.cells #[.int .i64 0, .int .i64 0, .slice none 0 0] 25)).heap.size = w.heap.size + 2 := by simp
    have e1 : (w.alloc (.cells #[.int .i64 op, .int .i64 n, .slice A len cap] 25)).heap.size = w.heap.size + 1 := by simp
    rw [e1] at hr1
    have hbx := (box_new w op n A len cap 25).below ((Below.refl (w.heap.size + 1) _).alloc (by omega) (.cells #[.int .i64 0, .int .i64 0, .slice none 0 0] 25)) (by omega)
    have Hr1 := hide hr1; have HbA := hide hbA; have Hbx := hide hbx
    clear hi0 hz0 hz1 hz2 hre hrv hbA hr1 hbx e1 hsd hmay
    go_enter Try.func42, Try.ntmps42
    go_wp2_with fail
    generalize (w.alloc (.cells #[.int .i64 op, .int .i64 n, .slice A len cap] 25)).alloc (.cells #[.int .i64 0, .int .i64 0, .slice none 0 0] 25) = W at *
    have hzW : w.heap.size + 2 ≤ W.heap.size := by omega
    clear hzA
    have hBW : B ≤ W.heap.size := by omega
    have Hdr : Hid (Below W.heap.size W W.drew) := hide (Below.refl _ _).drew
    have hl1 : (readsE t false).length ≤ 6 := readsE_six _ _
    have hl2 : (readsE t true).length ≤ 6 := readsE_six _ _
    by_cases hno : noRd t = true
    · have ha : (readsE t false).length = 0 := by have := Hrn.out.2 hno; omega
      have hb : (readsE t true).length = 0 := by have := Hrn.out.2 hno; omega
      go_region_held3 (fun w' => w'.cell? ⟨w.heap.size, 0, none⟩ = some (.int .i64 op) ∧ w'.cell? ⟨w.heap.size, 1, none⟩ = some (.int .i64 n) ∧ w'.cell? ⟨w.heap.size, 2, none⟩ = some (.slice A len cap))
        (first | exact keep3 Hbx (by omega) (by assumption))
        (first
          | (go_at_call 65; refine (c_rreads hBW Hre (by assumption)).mono ?_; rintro e w1 ⟨O, c, rfl, hb1⟩))
      have hz1 := hb1.out.size
      obtain ⟨f0, f1, f2⟩ := Hbx.out.below hb1.out (by omega)
      have Hre1 := hide (Hre.out.below (hb1.out.mono hBW))
      clear ha hb hl1 hl2
      go_wp2_with fail
      refine (rvalue_any B none 0 0 [] none 0 0 [] (by omega) (by omega) (fun x hx => by simp at hx) (fun x hx => by simp at hx) (d + 1) op n A len cap t w1 (by omega) Hre1.out Hsd.out ⟨rfl, fun h => absurd h (by omega)⟩ ⟨rfl, fun h => absurd h (by omega)⟩ (fun i hi => by rw [noRd_rd t 3 i (by omega) hno] at hi; cases hi) (fun i hi => by rw [noRd_rd t 4 i (by omega) hno] at hi; cases hi)).mono ?_
      rintro e w2 ⟨x, ok, rfl, hv, hb2⟩
      have Hb2 := hide (hb1.out.trans (hb2.mono hz1))
      have Hv := hide hv
      clear hb2 hv f0 f1 f2 hb1 Hre1 hz1
      cases ok
      · have Hf : Hid (foldT lv t = .mk op n (foldK lv t.kids)) := hide (by rw [Hfe.out, if_pos hno, Hv.out]; rfl)
        clear Hfe Hv hno Hrn
        have hz2 := Hb2.out.size
        have Hre2 := hide (Hre.out.below (Hb2.out.mono hBW))
        have Hrv2 := hide (Hrv.out.below (Hb2.out.mono hBW))
        have Hr12 := hide (Hr1.out.of_block (Hb2.out.block _ (by omega)))
        have Hbw2 := hide (HbA.out.trans (Hb2.out.mono (by omega)))
        have hbO := (Below.refl w2.heap.size w2).alloc (Nat.le_refl _) (.cells #[.int .i64 op, .int .i64 n, .slice none 0 0] 25)
        obtain ⟨f0, f1, f2⟩ := Hbx.out.below Hb2.out (by omega)
        obtain ⟨f3, f4, f5⟩ := (Hbx.out.below Hb2.out (by omega)).below hbO (by omega)
        clear Hr1 Hb2 Hbx Hre Hrv HbA Hdr
        go_wp2_with fail
        clear f0 f1 f2 f3 f4 f5
        have Hr13 := hide (Hr12.out.alloc (.cells #[.int .i64 op, .int .i64 n, .slice none 0 0] 25))
        have Hr23 := hide (bxE_new w2 op n none 0 0)
        have Hb3 := hide (Hbw2.out.trans (hbO.mono (by omega)))
        have Hre3 := hide (Hre2.out.below (hbO.mono (by omega)))
        have Hrv3 := hide (Hrv2.out.below (hbO.mono (by omega)))
        have hz3 : (w2.alloc (.cells #[.int .i64 op, .int .i64 n, .slice none 0 0] 25)).heap.size = w2.heap.size + 1 := by simp
        clear hbO Hr12 Hbw2 Hre2 Hrv2
        generalize w2.alloc (.cells #[.int .i64 op, .int .i64 n, .slice none 0 0] 25) = V at *
        generalize hG : w2.heap.size = G at *
        clear hG
        go_loopw [46] (fun i wr => ∃ (k c : Nat) (O : Option Addr) (ks : List K5), k ≤ len ∧ i = .int .i64 k ∧ wr.rowIs (w.heap.size + 1) 25 3 (bxE 0 0 none 0 0) ∧ wr.rowIs G 25 3 (bxE op n O k c) ∧ Grows (G + 1) d O k c ks ((foldK lv t.kids).take k) wr ∧ Below w.heap.size w wr ∧ Below (w.heap.size + 1) V wr ∧ V.heap.size ≤ wr.heap.size) (fun i _ => len - (intOf i).toNat)
        case atStart => exact ⟨0, 0, none, [], by omega, rfl, Hr13.out, Hr23.out, Grows.start _ _ _, Hb3.out, Below.refl _ _, Nat.le_refl _⟩
        case round =>
          obtain ⟨k, c, O, ks, hk, rfl, hr1, hr2, hgr, hb, hbv, hz⟩ := hrel
          have Hrr1 := hide hr1; have Hrr2 := hide hr2; have Hgr := hide hgr; have Hb := hide hb; have Hbv := hide hbv
          clear hr1 hr2 hgr hb hbv
          by_cases hlt : k < len
          · have hlt' : ((k : Int) < (len : Int)) := by omega
            obtain ⟨b, off, u, op2, n2, A2, l2, c2, rfl, hbB2, hku, ⟨c0, c1, cs⟩, hre2⟩ := (Hre3.out.below (Hbv.out.mono (by omega))).at_ hlt
            have Hsu := hide (may_kid Hmay.out hku)
            have Htk := hide (take_at (foldK_at lv _ k u hku))
            clear hku
            have hbW := (Below.refl wr.heap.size wr).alloc (Nat.le_refl _) (.cells #[.int .i64 op2, .int .i64 n2, .slice A2 l2 c2] 25)
            have Hre4 := hide (hre2.below (hbW.mono (by omega)))
            have Hrv4 := hide ((Hrv3.out.below (Hbv.out.mono (by omega))).below (hbW.mono (by omega)))
            have Hr1W := hide (Hrr1.out.alloc (.cells #[.int .i64 op2, .int .i64 n2, .slice A2 l2 c2] 25))
            have Hr2W := hide (Hrr2.out.alloc (.cells #[.int .i64 op2, .int .i64 n2, .slice A2 l2 c2] 25))
            have HgW := hide (Hgr.out.kept hbW.size (fun b _ hb => hbW.block b hb))
            have HbW := hide (Hb.out.trans (hbW.mono (by have := Hb.out.size; omega)))
            have HbvW := hide (Hbv.out.trans (hbW.mono (by omega)))
            have hzW1 : (wr.alloc (.cells #[.int .i64 op2, .int .i64 n2, .slice A2 l2 c2] 25)).heap.size = wr.heap.size + 1 := by simp
            have hboxk := box_new wr op2 n2 A2 l2 c2 25
            have Hbk := hide hboxk
            clear hre2 hbW hboxk
            go_wp2_with fail
            clear c0 c1 cs
            generalize wr.alloc (.cells #[.int .i64 op2, .int .i64 n2, .slice A2 l2 c2] 25) = W1 at *
            generalize hN : wr.heap.size = N1 at *
            obtain ⟨g0, g1, g2⟩ := Hbk.out
            have h2 := (bxE_cells Hr2W.out).2.2
            have hfz := Hr2W.out.frozen 2
            have Hre4d : Hid (RE W1.drew B d op2 n2 A2 l2 c2 u) := hide (RE.keep (w := W1) (w' := W1.drew) (fun _ _ => rfl) _ _ _ _ _ _ _ Hre4.out)
            have Hrv4d : Hid (Dom.RV W1.drew B Av nv lv) := hide (Hrv4.out.below (Below.refl _ _).drew)
            have Hog : Hid (∀ q, (Value.slice O k c).ownBlock = some q → G + 1 ≤ q ∧ q < N1) := hide (fun q hq => by
              have h1 := Hgr.out.1.lt q hq
              rw [hN] at h1; exact h1)
            go_region_law (first
                | (go_simp; go_at_call 42; refine (IH.out op2 n2 A2 l2 c2 u W1.drew (by show B ≤ W1.heap.size; omega) Hre4d.out Hsu.out Hrv4d.out).mono ?_; rintro e w5 ⟨x, rfl, hrq, hb5d⟩; have hb5 : Below W1.heap.size W1 w5 := ⟨hb5d.os, hb5d.tape, hb5d.output, hb5d.size, hb5d.block⟩; have k2 := (far5 hb5 ⟨G, 2, none⟩ (by show G < W1.heap.size; omega)).1.trans h2; have k3 : ∀ o : Obj, (w5.alloc o).cell? ⟨G, 2, none⟩ = some (.slice O k c) := fun o => (World.cell?_alloc_lt _ _ _ (by have := hb5.size; show G < w5.heap.size; omega)).trans k2)
                | (refine step_append_lies _ (by rfl) _ _ _ (by rfl) (G + 1) 25 i0 _ 3 40 Try.underlying23 Hi0.out Hz0.out Hz1.out Hz2.out rfl (by omega) (.slice O k c) k (flat ks) (by rfl) ((Grows.kept HgW.out (w' := w5.alloc (.cells #[.int .i64 x.op, .int .i64 x.n, .slice x.A x.len x.cap] 25)) (by have := hb5.size; simp at this ⊢; omega) (fun b _ hb => (Below.heap_alloc _ _ _ (Nat.lt_of_lt_of_le hb hb5.size)).trans (hb5.block b hb))).1)
                    ⟨w5.heap.size, 0, none⟩ 1 1 (kc x) (by rfl) (by rfl) (World.news_of_block (cs := #[.int .i64 x.op, .int .i64 x.n, .slice x.A x.len x.cap]) (t := 25) (fr := (0, 0)) (heap_alloc_new w5 _)) (kc_one x)
                    (by omega) (by unfold maxLen; omega) (by omega) (by have := hb5.size; simp at this ⊢; omega) (w5.heap.size + 1) (by simp) ?_; intro gg cap5 w6 hown5 hgrow hat hlt5; have c6 := (far6 (w1 := W1) hb5 hgrow Hog.out ⟨G, 2, none⟩ (by show G < W1.heap.size; omega) (.inl (by show G < G + 1; omega))).1.trans h2; have z6 := (far6 (w1 := W1) hb5 hgrow Hog.out ⟨G, 2, none⟩ (by show G < W1.heap.size; omega) (.inl (by show G < G + 1; omega))).2.trans hfz))
            all_goals
              have hend := round6 (N := w.heap.size) (lo := G + 1) (r1 := w.heap.size + 1) (r2 := G) (f1 := bxE 0 0 none 0 0) (op := op) (n := n) (by omega) (by omega) (by omega) (by omega) (by omega) (by omega) (by omega) Hr1W.out Hr2W.out HgW.out HbW.out hb5 hrq hgrow hown5 hat Hog.out
              have hendv := round6 (N := w.heap.size + 1) (lo := G + 1) (r1 := w.heap.size + 1) (r2 := G) (f1 := bxE 0 0 none 0 0) (op := op) (n := n) (by omega) (by omega) (by omega) (by omega) (by omega) (by omega) (by omega) Hr1W.out Hr2W.out HgW.out HbvW.out hb5 hrq hgrow hown5 hat Hog.out
              rw [← Htk.out] at hend
              have Hend := hide hend
              have Hendv := hide hendv.2.2.2.1
              clear hend hendv
              go_wp2_with fail
              go_roundw
              case rel => exact ⟨k + 1, cap5, some ⟨gg, 0, none⟩, ks ++ [x], by omega, by go_num, Hend.out.1, Hend.out.2.1, Hend.out.2.2.1, Hend.out.2.2.2.1, Hendv.out, by have := Hend.out.2.2.2.2; omega⟩
              case measure => simp [intOf]; omega
          · have hlt' : ¬ ((k : Int) < (len : Int)) := by omega
            obtain rfl : k = len := by omega
            obtain ⟨g0, g1, g2⟩ := bxE_cells Hrr2.out
            obtain ⟨m0, m1, m2⟩ := bxE_cells Hrr1.out
            have z0 := Hrr1.out.frozen 0
            have z1 := Hrr1.out.frozen 1
            have z2 := Hrr1.out.frozen 2
            obtain ⟨⟨s0, s1, s2⟩, hg7, hb7⟩ := store6 (op := op) (n := n) (N := w.heap.size) (r1 := w.heap.size + 1) (by omega) (by omega) Hrr1.out Hgr.out Hb.out
            have Hg7 := hide hg7; have Hb7 := hide hb7
            clear hg7 hb7
            go_wp2_with fail
            clear g0 g1 g2 m0 m1 m2 z0 z1 z2
            generalize ((wr.setCell ⟨w.heap.size + 1, 0, none⟩ (.int .i64 op)).setCell ⟨w.heap.size + 1, 1, none⟩ (.int .i64 n)).setCell ⟨w.heap.size + 1, 2, none⟩ (.slice O k c) = w7 at *
            have Htr := hide (Hg7.out.tree op n)
            rw [List.take_of_length_le (by rw [foldK_len, Hlen.out]; exact Nat.le_refl _), ← Hf.out] at Htr
            refine bodyPost_ret (v := .agg #[.int .i64 op, .int .i64 n, .slice O k c]) (by simp [results, Try.results42, go_sem, s0, s1, s2]) rfl ?_
            exact ⟨⟨op, n, O, k, c⟩, rfl, RQ.keep (fun b hq => ⟨by have := hq.1; omega, hq.2⟩) (fun _ _ => rfl) _ _ _ _ _ _ _ Htr.out, Hb7.out⟩
      · have Hf : Hid (foldT lv t = .mk (if (tyT lv t).1 = 1 then 2 else 1) x []) := hide (by rw [Hfe.out, if_pos hno, Hv.out]; rfl)
        clear Hfe Hv hno Hrn
        have hz2 := Hb2.out.size
        have Hre2 := hide (Hre.out.below (Hb2.out.mono hBW))
        have Hrv2 := hide (Hrv.out.below (Hb2.out.mono hBW))
        obtain ⟨f0, f1, f2⟩ := Hbx.out.below Hb2.out (by omega)
        go_wp2_with fail
        refine (rtyped_any B Av nv cv lv hnv (d + 1) op n A len cap t w2 (by omega) Hre2.out Hsd.out Hrv2.out).mono ?_
        rintro e w3 ⟨rfl, hb3⟩
        have Hb3 := hide (Hb2.out.trans (hb3.mono hz2))
        have hz3 := Hb3.out.size
        have Hr13 := hide (Hr1.out.of_block (Hb3.out.block _ (by omega)))
        have Hbw3 := hide (HbA.out.trans (Hb3.out.mono (by omega)))
        clear hb3 f0 f1 f2 Hr1 Hb2 Hbx Hre Hrv HbA Hdr Hre2 Hrv2
        obtain ⟨m0, m1, m2⟩ := bxE_cells Hr13.out
        have z0 := Hr13.out.frozen 0
        have z1 := Hr13.out.frozen 1
        have z2 := Hr13.out.frozen 2
        generalize tyT lv t = r at *
        obtain ⟨r1, r2⟩ := r
        simp only at Hf ⊢
        by_cases hr : r1 = 1
        · have hrb : (r1 == 1) = true := by simp [hr]
          rw [if_pos hr] at Hf
          clear hr
          obtain ⟨⟨s0, s1, s2⟩, hg7, hb7⟩ := store6 (op := 2) (n := x) (d := d) (N := w.heap.size) (r1 := w.heap.size + 1) (by omega) (by omega) Hr13.out (Grows.start (w.heap.size + 2) d w3) Hbw3.out
          have Hb7 := hide hb7
          clear hg7 hb7
          go_wp2_with fail
          clear m0 m1 m2 z0 z1 z2
          generalize ((w3.setCell ⟨w.heap.size + 1, 0, none⟩ (.int .i64 2)).setCell ⟨w.heap.size + 1, 1, none⟩ (.int .i64 x)).setCell ⟨w.heap.size + 1, 2, none⟩ (.slice none 0 0) = w7 at *
          refine bodyPost_ret (v := .agg #[.int .i64 2, .int .i64 x, .slice none 0 0]) (by simp [results, Try.results42, go_sem, s0, s1, s2]) rfl ?_
          exact ⟨⟨2, x, none, 0, 0⟩, rfl, by rw [Hf.out]; exact RQ.leaf _ _ _ _ _, Hb7.out⟩
        · have hrb : (r1 == 1) = false := by simp [hr]
          rw [if_neg hr] at Hf
          clear hr
          obtain ⟨⟨s0, s1, s2⟩, hg7, hb7⟩ := store6 (op := 1) (n := x) (d := d) (N := w.heap.size) (r1 := w.heap.size + 1) (by omega) (by omega) Hr13.out (Grows.start (w.heap.size + 2) d w3) Hbw3.out
          have Hb7 := hide hb7
          clear hg7 hb7
          go_wp2_with fail
          clear m0 m1 m2 z0 z1 z2
          generalize ((w3.setCell ⟨w.heap.size + 1, 0, none⟩ (.int .i64 1)).setCell ⟨w.heap.size + 1, 1, none⟩ (.int .i64 x)).setCell ⟨w.heap.size + 1, 2, none⟩ (.slice none 0 0) = w7 at *
          refine bodyPost_ret (v := .agg #[.int .i64 1, .int .i64 x, .slice none 0 0]) (by simp [results, Try.results42, go_sem, s0, s1, s2]) rfl ?_
          exact ⟨⟨1, x, none, 0, 0⟩, rfl, by rw [Hf.out]; exact RQ.leaf _ _ _ _ _, Hb7.out⟩
    · have Hf : Hid (foldT lv t = .mk op n (foldK lv t.kids)) := hide (by rw [Hfe.out, if_neg hno])
      have hwr : IntKind.i64.wrap (((readsE t false).length : Int) + ((readsE t true).length : Int)) = ((readsE t false).length : Int) + ((readsE t true).length : Int) := by rw [IntKind.wrap_i64]; omega
      have hne : ((((readsE t false).length : Int) + ((readsE t true).length : Int)) == 0) = false := by
        have : ¬ ((readsE t false).length + (readsE t true).length = 0) := fun e => hno (Hrn.out.1 e)
        simp; omega
      go_region_held3 (fun w' => w'.cell? ⟨w.heap.size, 0, none⟩ = some (.int .i64 op) ∧ w'.cell? ⟨w.heap.size, 1, none⟩ = some (.int .i64 n) ∧ w'.cell? ⟨w.heap.size, 2, none⟩ = some (.slice A len cap))
        (first | exact keep3 Hbx (by omega) (by assumption))
        (first
          | (go_at_call 65; refine (c_rreads hBW Hre (by assumption)).mono ?_; rintro e w1 ⟨O, c, rfl, hb1⟩))
      obtain ⟨w2, rfl⟩ : ∃ w2, w2 = w1 := ⟨_, rfl⟩
      have Hb2 := hb1
      clear hb1 hwr hl1 hl2 Hfe hno Hrn
      have hz2 := Hb2.out.size
      have Hre2 := hide (Hre.out.below (Hb2.out.mono hBW))
      have Hrv2 := hide (Hrv.out.below (Hb2.out.mono hBW))
      have Hr12 := hide (Hr1.out.of_block (Hb2.out.block _ (by omega)))
      have Hbw2 := hide (HbA.out.trans (Hb2.out.mono (by omega)))
      have hbO := (Below.refl w2.heap.size w2).alloc (Nat.le_refl _) (.cells #[.int .i64 op, .int .i64 n, .slice none 0 0] 25)
      obtain ⟨f0, f1, f2⟩ := Hbx.out.below Hb2.out (by omega)
      obtain ⟨f3, f4, f5⟩ := (Hbx.out.below Hb2.out (by omega)).below hbO (by omega)
      clear Hr1 Hb2 Hbx Hre Hrv HbA Hdr
      go_wp2_with fail
      clear f0 f1 f2 f3 f4 f5
      have Hr13 := hide (Hr12.out.alloc (.cells #[.int .i64 op, .int .i64 n, .slice none 0 0] 25))
      have Hr23 := hide (bxE_new w2 op n none 0 0)
      have Hb3 := hide (Hbw2.out.trans (hbO.mono (by omega)))
      have Hre3 := hide (Hre2.out.below (hbO.mono (by omega)))
      have Hrv3 := hide (Hrv2.out.below (hbO.mono (by omega)))
      have hz3 : (w2.alloc (.cells #[.int .i64 op, .int .i64 n, .slice none 0 0] 25)).heap.size = w2.heap.size + 1 := by simp
      clear hbO Hr12 Hbw2 Hre2 Hrv2
      generalize w2.alloc (.cells #[.int .i64 op, .int .i64 n, .slice none 0 0] 25) = V at *
      generalize hG : w2.heap.size = G at *
      clear hG
      go_loopw [46] (fun i wr => ∃ (k c : Nat) (O : Option Addr) (ks : List K5), k ≤ len ∧ i = .int .i64 k ∧ wr.rowIs (w.heap.size + 1) 25 3 (bxE 0 0 none 0 0) ∧ wr.rowIs G 25 3 (bxE op n O k c) ∧ Grows (G + 1) d O k c ks ((foldK lv t.kids).take k) wr ∧ Below w.heap.size w wr ∧ Below (w.heap.size + 1) V wr ∧ V.heap.size ≤ wr.heap.size) (fun i _ => len - (intOf i).toNat)
      case atStart => exact ⟨0, 0, none, [], by omega, rfl, Hr13.out, Hr23.out, Grows.start _ _ _, Hb3.out, Below.refl _ _, Nat.le_refl _⟩
      case round =>
        obtain ⟨k, c, O, ks, hk, rfl, hr1, hr2, hgr, hb, hbv, hz⟩ := hrel
        have Hrr1 := hide hr1; have Hrr2 := hide hr2; have Hgr := hide hgr; have Hb := hide hb; have Hbv := hide hbv
        clear hr1 hr2 hgr hb hbv
        by_cases hlt : k < len
        · have hlt' : ((k : Int) < (len : Int)) := by omega
          obtain ⟨b, off, u, op2, n2, A2, l2, c2, rfl, hbB2, hku, ⟨c0, c1, cs⟩, hre2⟩ := (Hre3.out.below (Hbv.out.mono (by omega))).at_ hlt
          have Hsu := hide (may_kid Hmay.out hku)
          have Htk := hide (take_at (foldK_at lv _ k u hku))
          clear hku
          have hbW := (Below.refl wr.heap.size wr).alloc (Nat.le_refl _) (.cells #[.int .i64 op2, .int .i64 n2, .slice A2 l2 c2] 25)
          have Hre4 := hide (hre2.below (hbW.mono (by omega)))
          have Hrv4 := hide ((Hrv3.out.below (Hbv.out.mono (by omega))).below (hbW.mono (by omega)))
          have Hr1W := hide (Hrr1.out.alloc (.cells #[.int .i64 op2, .int .i64 n2, .slice A2 l2 c2] 25))
          have Hr2W := hide (Hrr2.out.alloc (.cells #[.int .i64 op2, .int .i64 n2, .slice A2 l2 c2] 25))
          have HgW := hide (Hgr.out.kept hbW.size (fun b _ hb => hbW.block b hb))
          have HbW := hide (Hb.out.trans (hbW.mono (by have := Hb.out.size; omega)))
          have HbvW := hide (Hbv.out.trans (hbW.mono (by omega)))
          have hzW1 : (wr.alloc (.cells #[.int .i64 op2, .int .i64 n2, .slice A2 l2 c2] 25)).heap.size = wr.heap.size + 1 := by simp
          have hboxk := box_new wr op2 n2 A2 l2 c2 25
          have Hbk := hide hboxk
          clear hre2 hbW hboxk
          go_wp2_with fail
          clear c0 c1 cs
          generalize wr.alloc (.cells #[.int .i64 op2, .int .i64 n2, .slice A2 l2 c2] 25) = W1 at *
          generalize hN : wr.heap.size = N1 at *
          obtain ⟨g0, g1, g2⟩ := Hbk.out
          have h2 := (bxE_cells Hr2W.out).2.2
          have hfz := Hr2W.out.frozen 2
          have Hre4d : Hid (RE W1.drew B d op2 n2 A2 l2 c2 u) := hide (RE.keep (w := W1) (w' := W1.drew) (fun _ _ => rfl) _ _ _ _ _ _ _ Hre4.out)
          have Hrv4d : Hid (Dom.RV W1.drew B Av nv lv) := hide (Hrv4.out.below (Below.refl _ _).drew)
          have Hog : Hid (∀ q, (Value.slice O k c).ownBlock = some q → G + 1 ≤ q ∧ q < N1) := hide (fun q hq => by
            have h1 := Hgr.out.1.lt q hq
            rw [hN] at h1; exact h1)
          go_region_law (first
              | (go_simp; go_at_call 42; refine (IH.out op2 n2 A2 l2 c2 u W1.drew (by show B ≤ W1.heap.size; omega) Hre4d.out Hsu.out Hrv4d.out).mono ?_; rintro e w5 ⟨x, rfl, hrq, hb5d⟩; have hb5 : Below W1.heap.size W1 w5 := ⟨hb5d.os, hb5d.tape, hb5d.output, hb5d.size, hb5d.block⟩; have k2 := (far5 hb5 ⟨G, 2, none⟩ (by show G < W1.heap.size; omega)).1.trans h2; have k3 : ∀ o : Obj, (w5.alloc o).cell? ⟨G, 2, none⟩ = some (.slice O k c) := fun o => (World.cell?_alloc_lt _ _ _ (by have := hb5.size; show G < w5.heap.size; omega)).trans k2)
              | (refine step_append_lies _ (by rfl) _ _ _ (by rfl) (G + 1) 25 i0 _ 3 40 Try.underlying23 Hi0.out Hz0.out Hz1.out Hz2.out rfl (by omega) (.slice O k c) k (flat ks) (by rfl) ((Grows.kept HgW.out (w' := w5.alloc (.cells #[.int .i64 x.op, .int .i64 x.n, .slice x.A x.len x.cap] 25)) (by have := hb5.size; simp at this ⊢; omega) (fun b _ hb => (Below.heap_alloc _ _ _ (Nat.lt_of_lt_of_le hb hb5.size)).trans (hb5.block b hb))).1)
                  ⟨w5.heap.size, 0, none⟩ 1 1 (kc x) (by rfl) (by rfl) (World.news_of_block (cs := #[.int .i64 x.op, .int .i64 x.n, .slice x.A x.len x.cap]) (t := 25) (fr := (0, 0)) (heap_alloc_new w5 _)) (kc_one x)
                  (by omega) (by unfold maxLen; omega) (by omega) (by have := hb5.size; simp at this ⊢; omega) (w5.heap.size + 1) (by simp) ?_; intro gg cap5 w6 hown5 hgrow hat hlt5; have c6 := (far6 (w1 := W1) hb5 hgrow Hog.out ⟨G, 2, none⟩ (by show G < W1.heap.size; omega) (.inl (by show G < G + 1; omega))).1.trans h2; have z6 := (far6 (w1 := W1) hb5 hgrow Hog.out ⟨G, 2, none⟩ (by show G < W1.heap.size; omega) (.inl (by show G < G + 1; omega))).2.trans hfz))
          all_goals
            have hend := round6 (N := w.heap.size) (lo := G + 1) (r1 := w.heap.size + 1) (r2 := G) (f1 := bxE 0 0 none 0 0) (op := op) (n := n) (by omega) (by omega) (by omega) (by omega) (by omega) (by omega) (by omega) Hr1W.out Hr2W.out HgW.out HbW.out hb5 hrq hgrow hown5 hat Hog.out
            have hendv := round6 (N := w.heap.size + 1) (lo := G + 1) (r1 := w.heap.size + 1) (r2 := G) (f1 := bxE 0 0 none 0 0) (op := op) (n := n) (by omega) (by omega) (by omega) (by omega) (by omega) (by omega) (by omega) Hr1W.out Hr2W.out HgW.out HbvW.out hb5 hrq hgrow hown5 hat Hog.out
            rw [← Htk.out] at hend
            have Hend := hide hend
            have Hendv := hide hendv.2.2.2.1
            clear hend hendv
            go_wp2_with fail
            go_roundw
            case rel => exact ⟨k + 1, cap5, some ⟨gg, 0, none⟩, ks ++ [x], by omega, by go_num, Hend.out.1, Hend.out.2.1, Hend.out.2.2.1, Hend.out.2.2.2.1, Hendv.out, by have := Hend.out.2.2.2.2; omega⟩
            case measure => simp [intOf]; omega
        · have hlt' : ¬ ((k : Int) < (len : Int)) := by omega
          obtain rfl : k = len := by omega
          obtain ⟨g0, g1, g2⟩ := bxE_cells Hrr2.out
          obtain ⟨m0, m1, m2⟩ := bxE_cells Hrr1.out
          have z0 := Hrr1.out.frozen 0
          have z1 := Hrr1.out.frozen 1
          have z2 := Hrr1.out.frozen 2
          obtain ⟨⟨s0, s1, s2⟩, hg7, hb7⟩ := store6 (op := op) (n := n) (N := w.heap.size) (r1 := w.heap.size + 1) (by omega) (by omega) Hrr1.out Hgr.out Hb.out
          have Hg7 := hide hg7; have Hb7 := hide hb7
          clear hg7 hb7
          go_wp2_with fail
          clear g0 g1 g2 m0 m1 m2 z0 z1 z2
          generalize ((wr.setCell ⟨w.heap.size + 1, 0, none⟩ (.int .i64 op)).setCell ⟨w.heap.size + 1, 1, none⟩ (.int .i64 n)).setCell ⟨w.heap.size + 1, 2, none⟩ (.slice O k c) = w7 at *
          have Htr := hide (Hg7.out.tree op n)
          rw [List.take_of_length_le (by rw [foldK_len, Hlen.out]; exact Nat.le_refl _), ← Hf.out] at Htr
          refine bodyPost_ret (v := .agg #[.int .i64 op, .int .i64 n, .slice O k c]) (by simp [results, Try.results42, go_sem, s0, s1, s2]) rfl ?_
          exact ⟨⟨op, n, O, k, c⟩, rfl, RQ.keep (fun b hq => ⟨by have := hq.1; omega, hq.2⟩) (fun _ _ => rfl) _ _ _ _ _ _ _ Htr.out, Hb7.out⟩
end Go.Proofs.Ytkjclofkfmkbdaa
