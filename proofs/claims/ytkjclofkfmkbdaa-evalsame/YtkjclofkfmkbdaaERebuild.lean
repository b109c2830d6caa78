/- The walk of the program's rebuild, at each of the two functions that it is handed. -/
import Derived.Test.YtkjclofkfmkbdaaFCopy
namespace Go.Proofs.Ytkjclofkfmkbdaa
open Go.RowKit Ex
set_option linter.unusedSimpArgs false
set_option linter.unusedVariables false

set_option maxRecDepth 100000 in
set_option maxHeartbeats 4000000 in
theorem rebuild41_any (B d : Nat) (fT : T → T) (op n : Int) (A : Option Addr) (len cap : Nat) (t : T) (w : World) (hB : B ≤ w.heap.size) (hre : RE w B (d + 1) op n A len cap t) (hl3 : t.kids.length ≤ 3)
    (hF : ∀ (k : Nat) (op2 n2 : Int) (A2 : Option Addr) (l2 c2 : Nat) (u : T) (w' : World), B ≤ w'.heap.size → RE w' B d op2 n2 A2 l2 c2 u → t.kids[k]? = some u → Calls Try.prog 41 #[.agg #[.int .i64 op2, .int .i64 n2, .slice A2 l2 c2]] w' (TreePost d (fT u) w')) :
    Calls Try.prog 64 #[.agg #[.int .i64 op, .int .i64 n, .slice A len cap], .func (.func 41) #[] #[]] w (TreePost (d + 1) (.mk op n (t.kids.map fT)) w) := by
  have HF := hide hF; clear hF
  have Hl3 := hide hl3
  have Hre := hide hre
  obtain ⟨hx1, hx2, hlen, hcap, hmx, hx6⟩ := hre
  unfold maxLen at hmx
  have Hlen := hide hlen
  rw [hlen] at hl3
  obtain ⟨i0, hi0, hz0, hz1, hz2⟩ := info_parts info25
  have Hi0 := hide hi0; have Hz0 := hide hz0; have Hz1 := hide hz1; have Hz2 := hide hz2
  clear hi0 hz0 hz1 hz2 hx6 hx1 hx2 hlen
  obtain ⟨f0, f1, f2⟩ := box_new w op n A len cap 25
  have hbA : Below w.heap.size w (((w.alloc (.cells #[.int .i64 op, .int .i64 n, .slice A len cap] 25)).alloc (.cells #[.int .i64 0, .int .i64 0, .slice none 0 0] 25)).alloc (.cells #[.int .i64 op, .int .i64 n, .slice none 0 0] 25)) := (((Below.refl _ _).alloc (Nat.le_refl _) _).alloc (by simp) _).alloc (by simp; omega) _
  have hr1 := (bxE_new (w.alloc (.cells #[.int .i64 op, .int .i64 n, .slice A len cap] 25)) 0 0 none 0 0).alloc (.cells #[.int .i64 op, .int .i64 n, .slice none 0 0] 25)
  have hr2 := bxE_new ((w.alloc (.cells #[.int .i64 op, .int .i64 n, .slice A len cap] 25)).alloc (.cells #[.int .i64 0, .int .i64 0, .slice none 0 0] 25)) op n none 0 0
  have hzA : (((w.alloc (.cells #[.int .i64 op, .int .i64 n, .slice A len cap] 25)).alloc (.cells #[.int .i64 0, .int .i64 0, .slice none 0 0] 25)).alloc (.cells #[.int .i64 op, .int .i64 n, .slice none 0 0] 25)).heap.size = w.heap.size + 3 := by simp
  have e1 : (w.alloc (.cells #[.int .i64 op, .int .i64 n, .slice A len cap] 25)).heap.size = w.heap.size + 1 := by simp
  have e2 : ((w.alloc (.cells #[.int .i64 op, .int .i64 n, .slice A len cap] 25)).alloc (.cells #[.int .i64 0, .int .i64 0, .slice none 0 0] 25)).heap.size = w.heap.size + 1 + 1 := by simp
  rw [e1] at hr1
  rw [e2] at hr2
  have Hr1 := hide hr1; have Hr2 := hide hr2; have HbA := hide hbA
  clear hr1 hr2 hbA e1 e2
  go_enter Try.func64, Try.ntmps64
  go_wp2_with fail
  clear f0 f1 f2
  generalize ((w.alloc (.cells #[.int .i64 op, .int .i64 n, .slice A len cap] 25)).alloc (.cells #[.int .i64 0, .int .i64 0, .slice none 0 0] 25)).alloc (.cells #[.int .i64 op, .int .i64 n, .slice none 0 0] 25) = W at *
  go_loopw [16] (fun i wr => ∃ (k c : Nat) (O : Option Addr) (ks : List K5), k ≤ len ∧ i = .int .i64 k ∧ wr.rowIs (w.heap.size + 1) 25 3 (bxE 0 0 none 0 0) ∧ wr.rowIs (w.heap.size + 1 + 1) 25 3 (bxE op n O k c) ∧ Grows (w.heap.size + 3) d O k c ks ((t.kids.map fT).take k) wr ∧ Below w.heap.size w wr ∧ w.heap.size + 3 ≤ wr.heap.size) (fun i _ => len - (intOf i).toNat)
  case atStart => exact ⟨0, 0, none, [], by omega, rfl, Hr1.out, Hr2.out, Grows.start _ _ _, HbA.out, by omega⟩
  case round =>
    obtain ⟨k, c, O, ks, hk, rfl, hr1, hr2, hgr, hb, hz⟩ := hrel
    have Hrr1 := hide hr1; have Hrr2 := hide hr2; have Hgr := hide hgr; have Hb := hide hb
    clear hr1 hr2 hgr hb
    by_cases hlt : k < len
    · have hlt' : ((k : Int) < (len : Int)) := by omega
      obtain ⟨b, off, u, op2, n2, A2, l2, c2, rfl, hbB2, hku, ⟨c0, c1, cs⟩, hre2⟩ := (Hre.out.below (Hb.out.mono hB)).at_ hlt
      have Hsu := hide hku
      have Htk := hide (take_at (l := t.kids.map fT) (k := k) (u := fT u) (by simp [hku]))
      clear hku
      have hbW := (Below.refl wr.heap.size wr).alloc (Nat.le_refl _) (.cells #[.int .i64 op2, .int .i64 n2, .slice A2 l2 c2] 25)
      have Hre3 := hide (hre2.below (hbW.mono (by omega)))
      have Hr1W := hide (Hrr1.out.alloc (.cells #[.int .i64 op2, .int .i64 n2, .slice A2 l2 c2] 25))
      have Hr2W := hide (Hrr2.out.alloc (.cells #[.int .i64 op2, .int .i64 n2, .slice A2 l2 c2] 25))
      have HgW := hide (Hgr.out.kept hbW.size (fun b _ hb => hbW.block b hb))
      have HbW := hide (Hb.out.trans (hbW.mono (by have := Hb.out.size; omega)))
      have hzW : (wr.alloc (.cells #[.int .i64 op2, .int .i64 n2, .slice A2 l2 c2] 25)).heap.size = wr.heap.size + 1 := by simp
      have hboxk := box_new wr op2 n2 A2 l2 c2 25
      have Hbk := hide hboxk
      clear hre2 hbW hboxk
      go_wp2_with fail
      clear c0 c1 cs
      generalize wr.alloc (.cells #[.int .i64 op2, .int .i64 n2, .slice A2 l2 c2] 25) = W1 at *
      generalize hN : wr.heap.size = N1 at *
      obtain ⟨g0, g1, g2⟩ := Hbk.out
      have h2 := (bxE_cells Hr2W.out).2.2
      have hfz := Hr2W.out.frozen 2
      have Hre3d : Hid (RE W1.drew B d op2 n2 A2 l2 c2 u) := hide (RE.keep (w := W1) (w' := W1.drew) (fun _ _ => rfl) _ _ _ _ _ _ _ Hre3.out)
      have Hog : Hid (∀ q, (Value.slice O k c).ownBlock = some q → w.heap.size + 3 ≤ q ∧ q < N1) := hide (fun q hq => by
        have h1 := Hgr.out.1.lt q hq
        rw [hN] at h1; exact h1)
      go_region_law (first
          | (go_simp; go_at_call 41; refine (HF.out k op2 n2 A2 l2 c2 u W1.drew (by show B ≤ W1.heap.size; omega) Hre3d.out Hsu.out).mono ?_; rintro e w5 ⟨x, rfl, hrq, hb5d⟩; have hb5 : Below W1.heap.size W1 w5 := ⟨hb5d.os, hb5d.tape, hb5d.output, hb5d.size, hb5d.block⟩; have k2 := (far5 hb5 ⟨w.heap.size + 1 + 1, 2, none⟩ (by show w.heap.size + 1 + 1 < W1.heap.size; omega)).1.trans h2; have k3 : ∀ o : Obj, (w5.alloc o).cell? ⟨w.heap.size + 1 + 1, 2, none⟩ = some (.slice O k c) := fun o => (World.cell?_alloc_lt _ _ _ (by have := hb5.size; show w.heap.size + 1 + 1 < w5.heap.size; omega)).trans k2)
          | (refine step_append_lies _ (by rfl) _ _ _ (by rfl) (w.heap.size + 3) 25 i0 _ 3 40 Try.underlying23 Hi0.out Hz0.out Hz1.out Hz2.out rfl (by omega) (.slice O k c) k (flat ks) (by rfl) ((Grows.kept HgW.out (w' := w5.alloc (.cells #[.int .i64 x.op, .int .i64 x.n, .slice x.A x.len x.cap] 25)) (by have := hb5.size; simp at this ⊢; omega) (fun b _ hb => (Below.heap_alloc _ _ _ (Nat.lt_of_lt_of_le hb hb5.size)).trans (hb5.block b hb))).1)
              ⟨w5.heap.size, 0, none⟩ 1 1 (kc x) (by rfl) (by rfl) (World.news_of_block (cs := #[.int .i64 x.op, .int .i64 x.n, .slice x.A x.len x.cap]) (t := 25) (fr := (0, 0)) (heap_alloc_new w5 _)) (kc_one x)
              (by omega) (by unfold maxLen; omega) (by omega) (by have := hb5.size; simp at this ⊢; omega) (w5.heap.size + 1) (by simp) ?_; intro gg cap5 w6 hown5 hgrow hat hlt5; have c6 := (far6 (w1 := W1) hb5 hgrow Hog.out ⟨w.heap.size + 1 + 1, 2, none⟩ (by show w.heap.size + 1 + 1 < W1.heap.size; omega) (.inl (by show w.heap.size + 1 + 1 < w.heap.size + 3; omega))).1.trans h2; have z6 := (far6 (w1 := W1) hb5 hgrow Hog.out ⟨w.heap.size + 1 + 1, 2, none⟩ (by show w.heap.size + 1 + 1 < W1.heap.size; omega) (.inl (by show w.heap.size + 1 + 1 < w.heap.size + 3; omega))).2.trans hfz))
      all_goals
        have hend := round6 (N := w.heap.size) (lo := w.heap.size + 3) (r1 := w.heap.size + 1) (r2 := w.heap.size + 1 + 1) (f1 := bxE 0 0 none 0 0) (op := op) (n := n) (by omega) (by omega) (by omega) (by omega) (by omega) (by omega) (by omega) Hr1W.out Hr2W.out HgW.out HbW.out hb5 hrq hgrow hown5 hat Hog.out
        rw [← Htk.out] at hend
        have Hend := hide hend
        clear hend
        go_wp2_with fail
        go_roundw
        case rel => exact ⟨k + 1, cap5, some ⟨gg, 0, none⟩, ks ++ [x], by omega, by go_num, Hend.out.1, Hend.out.2.1, Hend.out.2.2.1, Hend.out.2.2.2.1, by have := Hend.out.2.2.2.2; omega⟩
        case measure => simp [intOf]; omega
    · have hlt' : ¬ ((k : Int) < (len : Int)) := by omega
      obtain rfl : k = len := by omega
      obtain ⟨g0, g1, g2⟩ := bxE_cells Hrr2.out
      obtain ⟨m0, m1, m2⟩ := bxE_cells Hrr1.out
      have z0 := Hrr1.out.frozen 0
      have z1 := Hrr1.out.frozen 1
      have z2 := Hrr1.out.frozen 2
      obtain ⟨⟨s0, s1, s2⟩, hg7, hb7⟩ := store6 (op := op) (n := n) (N := w.heap.size) (r1 := w.heap.size + 1) (by omega) (by omega) Hrr1.out Hgr.out Hb.out
      have Hg7 := hide hg7; have Hb7 := hide hb7
      clear hg7 hb7
      go_wp2_with fail
      clear g0 g1 g2 m0 m1 m2 z0 z1 z2
      generalize ((wr.setCell ⟨w.heap.size + 1, 0, none⟩ (.int .i64 op)).setCell ⟨w.heap.size + 1, 1, none⟩ (.int .i64 n)).setCell ⟨w.heap.size + 1, 2, none⟩ (.slice O k c) = w7 at *
      have Htr := hide (Hg7.out.tree op n)
      rw [List.take_of_length_le (by rw [List.length_map, Hlen.out]; exact Nat.le_refl _)] at Htr
      refine bodyPost_ret (v := .agg #[.int .i64 op, .int .i64 n, .slice O k c]) (by simp [results, Try.results64, go_sem, s0, s1, s2]) rfl ?_
      exact ⟨⟨op, n, O, k, c⟩, rfl, RQ.keep (fun b hq => ⟨by have := hq.1; omega, hq.2⟩) (fun _ _ => rfl) _ _ _ _ _ _ _ Htr.out, Hb7.out⟩

set_option maxRecDepth 100000 in
set_option maxHeartbeats 4000000 in
theorem rebuild63_any (B d : Nat) (fT : T → T) (op n : Int) (A : Option Addr) (len cap : Nat) (t : T) (w : World) (hB : B ≤ w.heap.size) (hre : RE w B (d + 1) op n A len cap t) (hl3 : t.kids.length ≤ 3)
    (hF : ∀ (k : Nat) (op2 n2 : Int) (A2 : Option Addr) (l2 c2 : Nat) (u : T) (w' : World), B ≤ w'.heap.size → RE w' B d op2 n2 A2 l2 c2 u → t.kids[k]? = some u → Calls Try.prog 63 #[.agg #[.int .i64 op2, .int .i64 n2, .slice A2 l2 c2]] w' (TreePost d (fT u) w')) :
    Calls Try.prog 64 #[.agg #[.int .i64 op, .int .i64 n, .slice A len cap], .func (.func 63) #[] #[]] w (TreePost (d + 1) (.mk op n (t.kids.map fT)) w) := by
  have HF := hide hF; clear hF
  have Hl3 := hide hl3
  have Hre := hide hre
  obtain ⟨hx1, hx2, hlen, hcap, hmx, hx6⟩ := hre
  unfold maxLen at hmx
  have Hlen := hide hlen
  rw [hlen] at hl3
  obtain ⟨i0, hi0, hz0, hz1, hz2⟩ := info_parts info25
  have Hi0 := hide hi0; have Hz0 := hide hz0; have Hz1 := hide hz1; have Hz2 := hide hz2
  clear hi0 hz0 hz1 hz2 hx6 hx1 hx2 hlen
  obtain ⟨f0, f1, f2⟩ := box_new w op n A len cap 25
  have hbA : Below w.heap.size w (((w.alloc (.cells #[.int .i64 op, .int .i64 n, .slice A len cap] 25)).alloc (.cells #[.int .i64 0, .int .i64 0, .slice none 0 0] 25)).alloc (.cells #[.int .i64 op, .int .i64 n, .slice none 0 0] 25)) := (((Below.refl _ _).alloc (Nat.le_refl _) _).alloc (by simp) _).alloc (by simp; omega) _
  have hr1 := (bxE_new (w.alloc (.cells #[.int .i64 op, .int .i64 n, .slice A len cap] 25)) 0 0 none 0 0).alloc (.cells #[.int .i64 op, .int .i64 n, .slice none 0 0] 25)
  have hr2 := bxE_new ((w.alloc (.cells #[.int .i64 op, .int .i64 n, .slice A len cap] 25)).alloc (.cells #[.int .i64 0, .int .i64 0, .slice none 0 0] 25)) op n none 0 0
  have hzA : (((w.alloc (.cells #[.int .i64 op, .int .i64 n, .slice A len cap] 25)).alloc (.cells #[.int .i64 0, .int .i64 0, .slice none 0 0] 25)).alloc (.cells #[.int .i64 op, .int .i64 n, .slice none 0 0] 25)).heap.size = w.heap.size + 3 := by simp
  have e1 : (w.alloc (.cells #[.int .i64 op, .int .i64 n, .slice A len cap] 25)).heap.size = w.heap.size + 1 := by simp
  have e2 : ((w.alloc (.cells #[.int .i64 op, .int .i64 n, .slice A len cap] 25)).alloc (.cells #[.int .i64 0, .int .i64 0, .slice none 0 0] 25)).heap.size = w.heap.size + 1 + 1 := by simp
  rw [e1] at hr1
  rw [e2] at hr2
  have Hr1 := hide hr1; have Hr2 := hide hr2; have HbA := hide hbA
  clear hr1 hr2 hbA e1 e2
  go_enter Try.func64, Try.ntmps64
  go_wp2_with fail
  clear f0 f1 f2
  generalize ((w.alloc (.cells #[.int .i64 op, .int .i64 n, .slice A len cap] 25)).alloc (.cells #[.int .i64 0, .int .i64 0, .slice none 0 0] 25)).alloc (.cells #[.int .i64 op, .int .i64 n, .slice none 0 0] 25) = W at *
  go_loopw [16] (fun i wr => ∃ (k c : Nat) (O : Option Addr) (ks : List K5), k ≤ len ∧ i = .int .i64 k ∧ wr.rowIs (w.heap.size + 1) 25 3 (bxE 0 0 none 0 0) ∧ wr.rowIs (w.heap.size + 1 + 1) 25 3 (bxE op n O k c) ∧ Grows (w.heap.size + 3) d O k c ks ((t.kids.map fT).take k) wr ∧ Below w.heap.size w wr ∧ w.heap.size + 3 ≤ wr.heap.size) (fun i _ => len - (intOf i).toNat)
  case atStart => exact ⟨0, 0, none, [], by omega, rfl, Hr1.out, Hr2.out, Grows.start _ _ _, HbA.out, by omega⟩
  case round =>
    obtain ⟨k, c, O, ks, hk, rfl, hr1, hr2, hgr, hb, hz⟩ := hrel
    have Hrr1 := hide hr1; have Hrr2 := hide hr2; have Hgr := hide hgr; have Hb := hide hb
    clear hr1 hr2 hgr hb
    by_cases hlt : k < len
    · have hlt' : ((k : Int) < (len : Int)) := by omega
      obtain ⟨b, off, u, op2, n2, A2, l2, c2, rfl, hbB2, hku, ⟨c0, c1, cs⟩, hre2⟩ := (Hre.out.below (Hb.out.mono hB)).at_ hlt
      have Hsu := hide hku
      have Htk := hide (take_at (l := t.kids.map fT) (k := k) (u := fT u) (by simp [hku]))
      clear hku
      have hbW := (Below.refl wr.heap.size wr).alloc (Nat.le_refl _) (.cells #[.int .i64 op2, .int .i64 n2, .slice A2 l2 c2] 25)
      have Hre3 := hide (hre2.below (hbW.mono (by omega)))
      have Hr1W := hide (Hrr1.out.alloc (.cells #[.int .i64 op2, .int .i64 n2, .slice A2 l2 c2] 25))
      have Hr2W := hide (Hrr2.out.alloc (.cells #[.int .i64 op2, .int .i64 n2, .slice A2 l2 c2] 25))
      have HgW := hide (Hgr.out.kept hbW.size (fun b _ hb => hbW.block b hb))
      have HbW := hide (Hb.out.trans (hbW.mono (by have := Hb.out.size; omega)))
      have hzW : (wr.alloc (.cells #[.int .i64 op2, .int .i64 n2, .slice A2 l2 c2] 25)).heap.size = wr.heap.size + 1 := by simp
      have hboxk := box_new wr op2 n2 A2 l2 c2 25
      have Hbk := hide hboxk
      clear hre2 hbW hboxk
      go_wp2_with fail
      clear c0 c1 cs
      generalize wr.alloc (.cells #[.int .i64 op2, .int .i64 n2, .slice A2 l2 c2] 25) = W1 at *
      generalize hN : wr.heap.size = N1 at *
      obtain ⟨g0, g1, g2⟩ := Hbk.out
      have h2 := (bxE_cells Hr2W.out).2.2
      have hfz := Hr2W.out.frozen 2
      have Hre3d : Hid (RE W1.drew B d op2 n2 A2 l2 c2 u) := hide (RE.keep (w := W1) (w' := W1.drew) (fun _ _ => rfl) _ _ _ _ _ _ _ Hre3.out)
      have Hog : Hid (∀ q, (Value.slice O k c).ownBlock = some q → w.heap.size + 3 ≤ q ∧ q < N1) := hide (fun q hq => by
        have h1 := Hgr.out.1.lt q hq
        rw [hN] at h1; exact h1)
      go_region_law (first
          | (go_simp; go_at_call 63; refine (HF.out k op2 n2 A2 l2 c2 u W1.drew (by show B ≤ W1.heap.size; omega) Hre3d.out Hsu.out).mono ?_; rintro e w5 ⟨x, rfl, hrq, hb5d⟩; have hb5 : Below W1.heap.size W1 w5 := ⟨hb5d.os, hb5d.tape, hb5d.output, hb5d.size, hb5d.block⟩; have k2 := (far5 hb5 ⟨w.heap.size + 1 + 1, 2, none⟩ (by show w.heap.size + 1 + 1 < W1.heap.size; omega)).1.trans h2; have k3 : ∀ o : Obj, (w5.alloc o).cell? ⟨w.heap.size + 1 + 1, 2, none⟩ = some (.slice O k c) := fun o => (World.cell?_alloc_lt _ _ _ (by have := hb5.size; show w.heap.size + 1 + 1 < w5.heap.size; omega)).trans k2)
          | (refine step_append_lies _ (by rfl) _ _ _ (by rfl) (w.heap.size + 3) 25 i0 _ 3 40 Try.underlying23 Hi0.out Hz0.out Hz1.out Hz2.out rfl (by omega) (.slice O k c) k (flat ks) (by rfl) ((Grows.kept HgW.out (w' := w5.alloc (.cells #[.int .i64 x.op, .int .i64 x.n, .slice x.A x.len x.cap] 25)) (by have := hb5.size; simp at this ⊢; omega) (fun b _ hb => (Below.heap_alloc _ _ _ (Nat.lt_of_lt_of_le hb hb5.size)).trans (hb5.block b hb))).1)
              ⟨w5.heap.size, 0, none⟩ 1 1 (kc x) (by rfl) (by rfl) (World.news_of_block (cs := #[.int .i64 x.op, .int .i64 x.n, .slice x.A x.len x.cap]) (t := 25) (fr := (0, 0)) (heap_alloc_new w5 _)) (kc_one x)
              (by omega) (by unfold maxLen; omega) (by omega) (by have := hb5.size; simp at this ⊢; omega) (w5.heap.size + 1) (by simp) ?_; intro gg cap5 w6 hown5 hgrow hat hlt5; have c6 := (far6 (w1 := W1) hb5 hgrow Hog.out ⟨w.heap.size + 1 + 1, 2, none⟩ (by show w.heap.size + 1 + 1 < W1.heap.size; omega) (.inl (by show w.heap.size + 1 + 1 < w.heap.size + 3; omega))).1.trans h2; have z6 := (far6 (w1 := W1) hb5 hgrow Hog.out ⟨w.heap.size + 1 + 1, 2, none⟩ (by show w.heap.size + 1 + 1 < W1.heap.size; omega) (.inl (by show w.heap.size + 1 + 1 < w.heap.size + 3; omega))).2.trans hfz))
      all_goals
        have hend := round6 (N := w.heap.size) (lo := w.heap.size + 3) (r1 := w.heap.size + 1) (r2 := w.heap.size + 1 + 1) (f1 := bxE 0 0 none 0 0) (op := op) (n := n) (by omega) (by omega) (by omega) (by omega) (by omega) (by omega) (by omega) Hr1W.out Hr2W.out HgW.out HbW.out hb5 hrq hgrow hown5 hat Hog.out
        rw [← Htk.out] at hend
        have Hend := hide hend
        clear hend
        go_wp2_with fail
        go_roundw
        case rel => exact ⟨k + 1, cap5, some ⟨gg, 0, none⟩, ks ++ [x], by omega, by go_num, Hend.out.1, Hend.out.2.1, Hend.out.2.2.1, Hend.out.2.2.2.1, by have := Hend.out.2.2.2.2; omega⟩
        case measure => simp [intOf]; omega
    · have hlt' : ¬ ((k : Int) < (len : Int)) := by omega
      obtain rfl : k = len := by omega
      obtain ⟨g0, g1, g2⟩ := bxE_cells Hrr2.out
      obtain ⟨m0, m1, m2⟩ := bxE_cells Hrr1.out
      have z0 := Hrr1.out.frozen 0
      have z1 := Hrr1.out.frozen 1
      have z2 := Hrr1.out.frozen 2
      obtain ⟨⟨s0, s1, s2⟩, hg7, hb7⟩ := store6 (op := op) (n := n) (N := w.heap.size) (r1 := w.heap.size + 1) (by omega) (by omega) Hrr1.out Hgr.out Hb.out
      have Hg7 := hide hg7; have Hb7 := hide hb7
      clear hg7 hb7
      go_wp2_with fail
      clear g0 g1 g2 m0 m1 m2 z0 z1 z2
      generalize ((wr.setCell ⟨w.heap.size + 1, 0, none⟩ (.int .i64 op)).setCell ⟨w.heap.size + 1, 1, none⟩ (.int .i64 n)).setCell ⟨w.heap.size + 1, 2, none⟩ (.slice O k c) = w7 at *
      have Htr := hide (Hg7.out.tree op n)
      rw [List.take_of_length_le (by rw [List.length_map, Hlen.out]; exact Nat.le_refl _)] at Htr
      refine bodyPost_ret (v := .agg #[.int .i64 op, .int .i64 n, .slice O k c]) (by simp [results, Try.results64, go_sem, s0, s1, s2]) rfl ?_
      exact ⟨⟨op, n, O, k, c⟩, rfl, RQ.keep (fun b hq => ⟨by have := hq.1; omega, hq.2⟩) (fun _ _ => rfl) _ _ _ _ _ _ _ Htr.out, Hb7.out⟩
end Go.Proofs.Ytkjclofkfmkbdaa
