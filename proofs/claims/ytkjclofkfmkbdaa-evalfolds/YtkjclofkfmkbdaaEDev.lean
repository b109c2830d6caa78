/- The walks of the program's copyTree, copyOf, fold and Fold. -/
import Derived.Test.YtkjclofkfmkbdaaEDevA
import Derived.Test.YtkjclofkfmkbdaaEWithin
import Derived.Test.YtkjclofkfmkbdaaERebuild
namespace Go.Proofs.Ytkjclofkfmkbdaa
open Go.RowKit Ex
set_option linter.unusedSimpArgs false
set_option linter.unusedVariables false

theorem map_id_T (ks : List T) : ks.map (fun u => u) = ks := by simp
theorem foldK_map (l : List Dom.V) : ∀ ks, foldK l ks = ks.map (foldT l)
  | [] => by rw [foldK]; rfl
  | k :: r => by rw [foldK, foldK_map l r]; rfl
theorem tyK_same {l l2 : List Dom.V} : ∀ {ks : List T}, (∀ u ∈ ks, tyT l u = tyT l2 u) → tyK l ks = tyK l2 ks
  | [], _ => by rw [tyK, tyK]
  | k :: r, h => by rw [tyK, tyK, h k (by simp), tyK_same (fun u hu => h u (by simp [hu]))]
theorem noRd_ty (l l2 : List Dom.V) : ∀ t, noRd t = true → tyT l t = tyT l2 t := T.ind (fun op n ks ih h => by
  rw [noRd, Bool.and_eq_true, Bool.and_eq_true] at h
  have h3 := h.1.1; have h4 := h.1.2
  simp at h3 h4
  rw [tyT, tyT, tyK_same (fun u hu => ih u hu (noRdK_mem h.2 u hu))]
  unfold tyN
  rw [if_neg (show ¬ (op = 3 ∨ op = 4) by omega), if_neg (show ¬ (op = 3 ∨ op = 4) by omega)])
theorem may_nil : Dom.mayL [] = 0 := by rfl
theorem st_nil : isSt [] 0 = true := by rfl
theorem vals_nil : Dom.valsL [] 0 = [] := by rfl
theorem sort_nil {t : T} (h : mayE t = 0) : sortE [] t = tyT [] t := by unfold sortE; rw [if_pos may_nil, if_pos h]
theorem fold_two {lv : List Dom.V} {t : T} (hm : mayE t = 0) (hty : (tyT lv t).2 = 0) :
    (∃ x, valE [] t 0 0 = (x, 0) ∧ (sortE [] t).1 = (tyT lv t).1 ∧ foldT lv t = .mk (if (tyT lv t).1 = 1 then 2 else 1) x []) ∨ ((valE [] t 0 0).2 ≠ 0 ∧ foldT lv t = .mk t.op t.n (t.kids.map (foldT lv))) := by
  rw [foldT_eq, foldK_map]
  cases hno : noRd t
  · right
    refine ⟨?_, by simp⟩
    obtain ⟨op, i, hop, _, hr⟩ := noRd_some t (may_sound hm) hno
    have hs : (sortE [] t).2 ≠ 0 := fun h => by
      rw [sort_nil hm] at h
      have := ty_reads [] t op i hop h hr
      simp at this
    unfold valE
    rw [if_neg hs]
    exact hs
  · have ht := noRd_ty [] lv t hno
    have hs : sortE [] t = tyT lv t := by rw [sort_nil hm, ht]
    have hv : valE [] t 0 0 = valP (vT [] [] t) := by
      unfold valE
      rw [hs, if_pos hty, if_pos ⟨st_nil, st_nil⟩, vals_nil]
    rw [hv, hs]
    cases vT [] [] t with
    | none => right; exact ⟨by simp [valP], by simp⟩
    | some x => left; exact ⟨x, rfl, rfl, by simp⟩
theorem rv_nil (w : World) (B : Nat) : Dom.RV w B none 0 [] := ⟨rfl, fun h => absurd h (by omega)⟩

set_option maxRecDepth 100000 in
set_option maxHeartbeats 4000000 in
theorem copyTree_any (B : Nat) : ∀ (d : Nat) (op n : Int) (A : Option Addr) (len cap : Nat) (t : T) (w : World), B ≤ w.heap.size → RE w B d op n A len cap t → sound t = true →
    Calls Try.prog 63 #[.agg #[.int .i64 op, .int .i64 n, .slice A len cap]] w (TreePost d t w) := by
  intro d
  induction d with
  | zero => intro op n A len cap t w hB h; exact absurd h id
  | succ d ih =>
    intro op n A len cap t w hB hre hsd
    have IH := hide ih; clear ih
    have Ht : Hid (T.mk op n (t.kids.map (fun u => u)) = t) := hide (by rw [map_id_T]; exact hre.eq_mk.symm)
    have Hl3 := hide (sound_op hsd).2.2
    have Hsd := hide hsd
    have hbA : Below w.heap.size w ((w.alloc (.cells #[.int .i64 op, .int .i64 n, .slice A len cap] 25)).alloc (.cells #[.int .i64 0, .int .i64 0, .slice none 0 0] 25)) := ((Below.refl _ _).alloc (Nat.le_refl _) _).alloc (by simp) _
    have Hre := hide (hre.below (hbA.mono hB))
    have hr1 := bxE_new (w.alloc (.cells #[.int .i64 op, .int .i64 n, .slice A len cap] 25)) 0 0 none 0 0
    have hzA : ((w.alloc (.cells #[.int .i64 op, .int .i64 n, .slice A len cap] 25)).alloc (.cells #[.int .i64 0, .int .i64 0, .slice none 0 0] 25)).heap.size = w.heap.size + 2 := by simp
    have e1 : (w.alloc (.cells #[.int .i64 op, .int .i64 n, .slice A len cap] 25)).heap.size = w.heap.size + 1 := by simp
    rw [e1] at hr1
    have hbx := (box_new w op n A len cap 25).below ((Below.refl (w.heap.size + 1) _).alloc (by omega) (.cells #[.int .i64 0, .int .i64 0, .slice none 0 0] 25)) (by omega)
    have Hr1 := hide hr1; have HbA := hide hbA; have Hbx := hide hbx
    clear hr1 hbA e1 hbx
    clear hre hsd
    obtain ⟨f0, f1, f2⟩ := Hbx.out
    go_enter Try.func63, Try.ntmps63
    go_wp2_with fail
    clear f0 f1 f2
    generalize (w.alloc (.cells #[.int .i64 op, .int .i64 n, .slice A len cap] 25)).alloc (.cells #[.int .i64 0, .int .i64 0, .slice none 0 0] 25) = W at *
    have hzW : w.heap.size + 2 ≤ W.heap.size := by omega
    clear hzA
    refine (rebuild63_any B d (fun u => u) op n A len cap t W (by omega) Hre.out Hl3.out (fun k op2 n2 A2 l2 c2 u w' hB' hr hu => IH.out op2 n2 A2 l2 c2 u w' hB' hr (soundK_at _ k u (sound_kids Hsd.out) hu))).mono ?_
    rintro e w1 ⟨y, rfl, hrq, hb1⟩
    rw [Ht.out] at hrq
    have hz1 := hb1.size
    have Hrq := hide hrq
    have Hr11 := hide (Hr1.out.of_block (hb1.block _ (by omega)))
    have Hbw1 := hide (HbA.out.trans (hb1.mono (by omega)))
    clear hb1 hrq Hr1 HbA Hbx Hre IH
    obtain ⟨m0, m1, m2⟩ := bxE_cells Hr11.out
    have z0 := Hr11.out.frozen 0
    have z1 := Hr11.out.frozen 1
    have z2 := Hr11.out.frozen 2
    obtain ⟨⟨s0, s1, s2⟩, hb7, hz7, hk7⟩ := store3 (op := y.op) (n := y.n) (A := y.A) (len := y.len) (cap := y.cap) (N := w.heap.size) (r1 := w.heap.size + 1) (by omega) Hr11.out Hbw1.out
    have Hb7 := hide hb7; have Hz7 := hide hz7; have Hk7 := hide hk7
    clear hb7 hz7 hk7
    obtain ⟨yo, yn, yA, yl, yc⟩ := y
    simp only at *
    go_wp2_with fail
    clear m0 m1 m2 z0 z1 z2
    generalize ((w1.setCell ⟨w.heap.size + 1, 0, none⟩ (.int .i64 yo)).setCell ⟨w.heap.size + 1, 1, none⟩ (.int .i64 yn)).setCell ⟨w.heap.size + 1, 2, none⟩ (.slice yA yl yc) = w7 at *
    refine bodyPost_ret (v := .agg #[.int .i64 yo, .int .i64 yn, .slice yA yl yc]) (by simp [results, Try.results63, go_sem, s0, s1, s2]) rfl ?_
    exact ⟨⟨yo, yn, yA, yl, yc⟩, rfl, RQ.keep (Q := New W w1) (fun b hq => ⟨by have := hq.1; omega, by have := Hz7.out; have := hq.2; omega⟩) (fun p hq => World.cell?_of_block (Hk7.out _ (by have := hq.1; omega))) _ _ _ _ _ _ _ Hrq.out, Hb7.out⟩

set_option maxRecDepth 100000 in
set_option maxHeartbeats 4000000 in
theorem copyOf_any (B : Nat) (d : Nat) (op n : Int) (A : Option Addr) (len cap : Nat) (t : T) (w : World) (hB : B ≤ w.heap.size) (hre : RE w B d op n A len cap t) (hsd : sound t = true) (hfz : fz t ≤ 60) :
    Calls Try.prog 40 #[.agg #[.int .i64 op, .int .i64 n, .slice A len cap]] w (TreePost d t w) := by
  have Hsd := hide hsd
  have hbA : Below w.heap.size w ((w.alloc (.cells #[.int .i64 op, .int .i64 n, .slice A len cap] 25)).alloc (.cells #[.int .i64 0, .int .i64 0, .slice none 0 0] 25)) := ((Below.refl _ _).alloc (Nat.le_refl _) _).alloc (by simp) _
  have Hre := hide (hre.below (hbA.mono hB))
  have hr1 := bxE_new (w.alloc (.cells #[.int .i64 op, .int .i64 n, .slice A len cap] 25)) 0 0 none 0 0
  have hzA : ((w.alloc (.cells #[.int .i64 op, .int .i64 n, .slice A len cap] 25)).alloc (.cells #[.int .i64 0, .int .i64 0, .slice none 0 0] 25)).heap.size = w.heap.size + 2 := by simp
  have e1 : (w.alloc (.cells #[.int .i64 op, .int .i64 n, .slice A len cap] 25)).heap.size = w.heap.size + 1 := by simp
  rw [e1] at hr1
  have hbx := (box_new w op n A len cap 25).below ((Below.refl (w.heap.size + 1) _).alloc (by omega) (.cells #[.int .i64 0, .int .i64 0, .slice none 0 0] 25)) (by omega)
  have Hr1 := hide hr1; have HbA := hide hbA; have Hbx := hide hbx
  clear hr1 hbA e1 hbx
  clear hre hsd
  obtain ⟨f0, f1, f2⟩ := Hbx.out
  have hbL := (Below.refl (w.heap.size + 2) ((w.alloc (.cells #[.int .i64 op, .int .i64 n, .slice A len cap] 25)).alloc (.cells #[.int .i64 0, .int .i64 0, .slice none 0 0] 25))).alloc (by omega) (.cells #[.int .i64 53687091] 3)
  have hrL : (((w.alloc (.cells #[.int .i64 op, .int .i64 n, .slice A len cap] 25)).alloc (.cells #[.int .i64 0, .int .i64 0, .slice none 0 0] 25)).alloc (.cells #[.int .i64 53687091] 3)).rowIs (w.heap.size + 2) 3 1 (oneV 53687091) := by
    have := World.rowIs_alloc ((w.alloc (.cells #[.int .i64 op, .int .i64 n, .slice A len cap] 25)).alloc (.cells #[.int .i64 0, .int .i64 0, .slice none 0 0] 25)) #[.int .i64 53687091] 3 (oneV 53687091) (fun i hi => by
      have h : i = 0 := by simp at hi; omega
      subst h; rfl)
    rw [hzA] at this; exact this
  have hzL : (((w.alloc (.cells #[.int .i64 op, .int .i64 n, .slice A len cap] 25)).alloc (.cells #[.int .i64 0, .int .i64 0, .slice none 0 0] 25)).alloc (.cells #[.int .i64 53687091] 3)).heap.size = w.heap.size + 3 := by simp
  have Hre1 := hide (Hre.out.below (hbL.mono (by omega)))
  have Hr11 := hide (Hr1.out.of_block (hbL.block _ (by omega)))
  have HbL := hide (HbA.out.trans (hbL.mono (by omega)))
  have Hbx1 := hide (Hbx.out.below hbL (by omega))
  have HrL := hide hrL
  obtain ⟨f3, f4, f5⟩ := Hbx1.out
  clear hbL hrL Hre Hr1 HbA Hbx
  go_enter Try.func40, Try.ntmps40
  go_wp2_with fail
  clear f0 f1 f2 f3 f4 f5
  generalize ((w.alloc (.cells #[.int .i64 op, .int .i64 n, .slice A len cap] 25)).alloc (.cells #[.int .i64 0, .int .i64 0, .slice none 0 0] 25)).alloc (.cells #[.int .i64 53687091] 3) = V at *
  have hzV : w.heap.size + 3 ≤ V.heap.size := by omega
  clear hzL hzA
  refine (iswithin_any B (w.heap.size + 2) d op n A len cap t 65536 53687091 V (by omega) (by omega) Hre1.out (by omega) (by omega) (by omega) (by omega) HrL.out).mono ?_
  rintro e w1 ⟨rfl, hrow1, hon⟩
  have hz1 := hon.size
  have hb1 : Below (w.heap.size + 2) V w1 := hon.below (Nat.le_refl _) (by omega)
  have Hre2 := hide (Hre1.out.below (hb1.mono (by omega)))
  have Hr12 := hide (Hr11.out.of_block (hb1.block _ (by omega)))
  have Hbw1 := hide (HbL.out.trans (hb1.mono (by omega)))
  obtain ⟨f0, f1, f2⟩ := Hbx1.out.below hb1 (by omega)
  clear hrow1 hon hb1 Hre1 Hr11 HbL Hbx1 HrL hfz
  go_wp2_with fail
  clear f0 f1 f2
  refine (copyTree_any B d op n A len cap t w1 (by omega) Hre2.out Hsd.out).mono ?_
  rintro e w2 ⟨y, rfl, hrq, hb2⟩
  have hz2 := hb2.size
  have Hrq := hide hrq
  have Hr13 := hide (Hr12.out.of_block (hb2.block _ (by omega)))
  have Hbw2 := hide (Hbw1.out.trans (hb2.mono (by omega)))
  clear hb2 hrq Hr12 Hbw1 Hre2
  obtain ⟨m0, m1, m2⟩ := bxE_cells Hr13.out
  have z0 := Hr13.out.frozen 0
  have z1 := Hr13.out.frozen 1
  have z2 := Hr13.out.frozen 2
  obtain ⟨⟨s0, s1, s2⟩, hb7, hz7, hk7⟩ := store3 (op := y.op) (n := y.n) (A := y.A) (len := y.len) (cap := y.cap) (N := w.heap.size) (r1 := w.heap.size + 1) (by omega) Hr13.out Hbw2.out
  have Hb7 := hide hb7; have Hz7 := hide hz7; have Hk7 := hide hk7
  clear hb7 hz7 hk7
  obtain ⟨yo, yn, yA, yl, yc⟩ := y
  simp only at *
  go_wp2_with fail
  clear m0 m1 m2 z0 z1 z2
  generalize ((w2.setCell ⟨w.heap.size + 1, 0, none⟩ (.int .i64 yo)).setCell ⟨w.heap.size + 1, 1, none⟩ (.int .i64 yn)).setCell ⟨w.heap.size + 1, 2, none⟩ (.slice yA yl yc) = w7 at *
  refine bodyPost_ret (v := .agg #[.int .i64 yo, .int .i64 yn, .slice yA yl yc]) (by simp [results, Try.results40, go_sem, s0, s1, s2]) rfl ?_
  exact ⟨⟨yo, yn, yA, yl, yc⟩, rfl, RQ.keep (Q := New w1 w2) (fun b hq => ⟨by have := hq.1; omega, by have := Hz7.out; have := hq.2; omega⟩) (fun p hq => World.cell?_of_block (Hk7.out _ (by have := hq.1; omega))) _ _ _ _ _ _ _ Hrq.out, Hb7.out⟩

set_option maxRecDepth 100000 in
set_option maxHeartbeats 4000000 in
theorem dfoldT_any (B : Nat) (lv : List Dom.V) : ∀ (d : Nat) (op n : Int) (A : Option Addr) (len cap : Nat) (t : T) (w : World), B ≤ w.heap.size → RE w B d op n A len cap t → mayE t = 0 → (tyT lv t).2 = 0 →
    Calls Try.prog 41 #[.agg #[.int .i64 op, .int .i64 n, .slice A len cap]] w (TreePost d (foldT lv t) w) := by
  intro d
  induction d with
  | zero => intro op n A len cap t w hB h; exact absurd h id
  | succ d ih =>
    intro op n A len cap t w hB hre hmay hty
    have IH := hide ih; clear ih
    have Hw := hide (fold_two hmay hty)
    have Hot : Hid (t.op = op ∧ t.n = n) := hide ⟨hre.1, hre.2.1⟩
    have Hl3 := hide (sound_op (may_sound hmay)).2.2
    have Hmay := hide hmay
    have Hty := hide hty
    have hbA : Below w.heap.size w ((w.alloc (.cells #[.int .i64 op, .int .i64 n, .slice A len cap] 25)).alloc (.cells #[.int .i64 0, .int .i64 0, .slice none 0 0] 25)) := ((Below.refl _ _).alloc (Nat.le_refl _) _).alloc (by simp) _
    have Hre := hide (hre.below (hbA.mono hB))
    have hr1 := bxE_new (w.alloc (.cells #[.int .i64 op, .int .i64 n, .slice A len cap] 25)) 0 0 none 0 0
    have hzA : ((w.alloc (.cells #[.int .i64 op, .int .i64 n, .slice A len cap] 25)).alloc (.cells #[.int .i64 0, .int .i64 0, .slice none 0 0] 25)).heap.size = w.heap.size + 2 := by simp
    have e1 : (w.alloc (.cells #[.int .i64 op, .int .i64 n, .slice A len cap] 25)).heap.size = w.heap.size + 1 := by simp
    rw [e1] at hr1
    have hbx := (box_new w op n A len cap 25).below ((Below.refl (w.heap.size + 1) _).alloc (by omega) (.cells #[.int .i64 0, .int .i64 0, .slice none 0 0] 25)) (by omega)
    have Hr1 := hide hr1; have HbA := hide hbA; have Hbx := hide hbx
    clear hr1 hbA e1 hbx
    clear hre hmay hty
    obtain ⟨f0, f1, f2⟩ := Hbx.out
    go_enter Try.func41, Try.ntmps41
    go_wp2_with fail
    clear f0 f1 f2
    generalize (w.alloc (.cells #[.int .i64 op, .int .i64 n, .slice A len cap] 25)).alloc (.cells #[.int .i64 0, .int .i64 0, .slice none 0 0] 25) = W at *
    have hzW : w.heap.size + 2 ≤ W.heap.size := by omega
    clear hzA
    refine (dval_any B none 0 0 [] (d + 1) op n A len cap t 0 0 W (by unfold maxLen; omega) (Nat.le_refl _) (by unfold maxLen; omega) (by omega) Hre.out (rv_nil _ _) (fun v hv => by simp at hv)).mono ?_
    rintro e w1 ⟨rfl, hb1⟩
    have hz1 := hb1.size
    have Hre1 := hide (Hre.out.below (hb1.mono (by omega)))
    have Hr11 := hide (Hr1.out.of_block (hb1.block _ (by omega)))
    have Hbw1 := hide (HbA.out.trans (hb1.mono (by omega)))
    have Hbx1 := hide (Hbx.out.below hb1 (by omega))
    clear hb1 Hre Hr1 HbA Hbx
    generalize valE [] t 0 0 = r at *
    obtain ⟨r1, r2⟩ := r
    simp only at Hw ⊢
    obtain ⟨f0, f1, f2⟩ := Hbx1.out
    rcases Hw.out with ⟨x, hr, hs, hf⟩ | ⟨hr, hf⟩
    · injection hr with hr1 hr2
      subst hr1; subst hr2
      have Hs := hide hs
      have Hf := hide hf
      clear hs hf Hw IH
      go_wp2_with fail
      clear f0 f1 f2
      refine (of_any B none 0 0 [] (d + 1) op n A len cap t w1 (by unfold maxLen; omega) (Nat.le_refl _) (by unfold maxLen; omega) (by omega) Hre1.out (rv_nil _ _) (fun v hv => by simp at hv)).mono ?_
      rintro e w2 ⟨rfl, hb2⟩
      have hz2 := hb2.size
      have Hr12 := hide (Hr11.out.of_block (hb2.block _ (by omega)))
      have Hbw2 := hide (Hbw1.out.trans (hb2.mono (by omega)))
      clear hb2 Hr11 Hbw1 Hre1 Hbx1
      rw [Hs.out]
      generalize (sortE [] t).2 = s2
      by_cases h1 : (tyT lv t).1 = 1
      · have h1b : ((tyT lv t).1 == 1) = true := by simp [h1]
        rw [if_pos h1] at Hf
        clear h1
        generalize (tyT lv t).1 = s1 at *
        obtain ⟨m0, m1, m2⟩ := bxE_cells Hr12.out
        have z0 := Hr12.out.frozen 0
        have z1 := Hr12.out.frozen 1
        have z2 := Hr12.out.frozen 2
        obtain ⟨⟨s0, s1, s2⟩, hb7, hz7, hk7⟩ := store3 (op := 2) (n := r1) (A := none) (len := 0) (cap := 0) (N := w.heap.size) (r1 := w.heap.size + 1) (by omega) Hr12.out Hbw2.out
        have Hb7 := hide hb7; have Hz7 := hide hz7; have Hk7 := hide hk7
        clear hb7 hz7 hk7
        go_wp2_with fail
        clear m0 m1 m2 z0 z1 z2
        generalize ((w2.setCell ⟨w.heap.size + 1, 0, none⟩ (.int .i64 2)).setCell ⟨w.heap.size + 1, 1, none⟩ (.int .i64 r1)).setCell ⟨w.heap.size + 1, 2, none⟩ (.slice none 0 0) = w7 at *
        refine bodyPost_ret (v := .agg #[.int .i64 2, .int .i64 r1, .slice none 0 0]) (by simp [results, Try.results41, go_sem, s0, s1, s2]) rfl ?_
        exact ⟨⟨2, r1, none, 0, 0⟩, rfl, by rw [Hf.out]; exact RQ.leaf _ _ _ _ _, Hb7.out⟩
      · have h1b : ((tyT lv t).1 == 1) = false := by simp [h1]
        rw [if_neg h1] at Hf
        clear h1
        generalize (tyT lv t).1 = s1 at *
        obtain ⟨m0, m1, m2⟩ := bxE_cells Hr12.out
        have z0 := Hr12.out.frozen 0
        have z1 := Hr12.out.frozen 1
        have z2 := Hr12.out.frozen 2
        obtain ⟨⟨s0, s1, s2⟩, hb7, hz7, hk7⟩ := store3 (op := 1) (n := r1) (A := none) (len := 0) (cap := 0) (N := w.heap.size) (r1 := w.heap.size + 1) (by omega) Hr12.out Hbw2.out
        have Hb7 := hide hb7; have Hz7 := hide hz7; have Hk7 := hide hk7
        clear hb7 hz7 hk7
        go_wp2_with fail
        clear m0 m1 m2 z0 z1 z2
        generalize ((w2.setCell ⟨w.heap.size + 1, 0, none⟩ (.int .i64 1)).setCell ⟨w.heap.size + 1, 1, none⟩ (.int .i64 r1)).setCell ⟨w.heap.size + 1, 2, none⟩ (.slice none 0 0) = w7 at *
        refine bodyPost_ret (v := .agg #[.int .i64 1, .int .i64 r1, .slice none 0 0]) (by simp [results, Try.results41, go_sem, s0, s1, s2]) rfl ?_
        exact ⟨⟨1, r1, none, 0, 0⟩, rfl, by rw [Hf.out]; exact RQ.leaf _ _ _ _ _, Hb7.out⟩
    · have hrb : (r2 != 0) = true := by simp [hr]
      have Hf := hide hf
      clear hr hf Hw
      go_wp2_with fail
      clear f0 f1 f2
      refine (rebuild41_any B d (foldT lv) op n A len cap t w1 (by omega) Hre1.out Hl3.out (fun k op2 n2 A2 l2 c2 u w' hB' hr hu => IH.out op2 n2 A2 l2 c2 u w' hB' hr (may_kid Hmay.out hu) (by
        have h1 := Hty.out
        have h2 := List.mem_of_getElem? hu
        cases t with
        | mk o m ks => exact tyK_mem (ty_kids h1).1 u h2))).mono ?_
      rintro e w2 ⟨y, rfl, hrq, hb2⟩
      have hz2 := hb2.size
      rw [show T.mk op n (t.kids.map (foldT lv)) = foldT lv t by rw [Hf.out, Hot.out.1, Hot.out.2]] at hrq
      have Hrq := hide hrq
      have Hr12 := hide (Hr11.out.of_block (hb2.block _ (by omega)))
      have Hbw2 := hide (Hbw1.out.trans (hb2.mono (by omega)))
      clear hb2 hrq Hr11 Hbw1 Hre1 IH Hbx1 Hf
      obtain ⟨m0, m1, m2⟩ := bxE_cells Hr12.out
      have z0 := Hr12.out.frozen 0
      have z1 := Hr12.out.frozen 1
      have z2 := Hr12.out.frozen 2
      obtain ⟨⟨s0, s1, s2⟩, hb7, hz7, hk7⟩ := store3 (op := y.op) (n := y.n) (A := y.A) (len := y.len) (cap := y.cap) (N := w.heap.size) (r1 := w.heap.size + 1) (by omega) Hr12.out Hbw2.out
      have Hb7 := hide hb7; have Hz7 := hide hz7; have Hk7 := hide hk7
      clear hb7 hz7 hk7
      obtain ⟨yo, yn, yA, yl, yc⟩ := y
      simp only at *
      go_wp2_with fail
      clear m0 m1 m2 z0 z1 z2
      generalize ((w2.setCell ⟨w.heap.size + 1, 0, none⟩ (.int .i64 yo)).setCell ⟨w.heap.size + 1, 1, none⟩ (.int .i64 yn)).setCell ⟨w.heap.size + 1, 2, none⟩ (.slice yA yl yc) = w7 at *
      refine bodyPost_ret (v := .agg #[.int .i64 yo, .int .i64 yn, .slice yA yl yc]) (by simp [results, Try.results41, go_sem, s0, s1, s2]) rfl ?_
      exact ⟨⟨yo, yn, yA, yl, yc⟩, rfl, RQ.keep (Q := New w1 w2) (fun b hq => ⟨by have := hq.1; omega, by have := Hz7.out; have := hq.2; omega⟩) (fun p hq => World.cell?_of_block (Hk7.out _ (by have := hq.1; omega))) _ _ _ _ _ _ _ Hrq.out, Hb7.out⟩

set_option maxRecDepth 100000 in
set_option maxHeartbeats 4000000 in
theorem dfold_any (B : Nat) (Av : Option Addr) (nv cv : Nat) (lv : List Dom.V) (d : Nat) (op n : Int) (A : Option Addr) (len cap : Nat) (t : T) (w : World) (hnv : nv ≤ maxLen) (hnc : nv ≤ cv) (hcv : cv ≤ maxLen) (hB : B ≤ w.heap.size) (hre : RE w B d op n A len cap t) (hrv : Dom.RV w B Av nv lv) (hnm : ∀ v ∈ lv, v.nm.size ≤ maxLen) (hm : mayE t = 0) :
    Calls Try.prog 18 #[.slice Av nv cv, .agg #[.int .i64 op, .int .i64 n, .slice A len cap]] w (ExprPost (foldE lv t) w) := by
  have Hm := hide hm
  have Hnm := hide hnm
  have Hfe : Hid (foldE lv t = if (sortE lv t).2 = 0 then foldT lv t else t) := hide rfl
  have Hty : Hid ((sortE lv t).2 = 0 → (tyT lv t).2 = 0) := hide (fun h => by rw [← sort_ty h]; exact h)
  have hbA : Below w.heap.size w ((w.alloc (.cells #[.int .i64 op, .int .i64 n, .slice A len cap] 25)).alloc (.cells #[.int .i64 0, .int .i64 0, .slice none 0 0] 25)) := ((Below.refl _ _).alloc (Nat.le_refl _) _).alloc (by simp) _
  have Hre := hide (hre.below (hbA.mono hB))
  have hr1 := bxE_new (w.alloc (.cells #[.int .i64 op, .int .i64 n, .slice A len cap] 25)) 0 0 none 0 0
  have hzA : ((w.alloc (.cells #[.int .i64 op, .int .i64 n, .slice A len cap] 25)).alloc (.cells #[.int .i64 0, .int .i64 0, .slice none 0 0] 25)).heap.size = w.heap.size + 2 := by simp
  have e1 : (w.alloc (.cells #[.int .i64 op, .int .i64 n, .slice A len cap] 25)).heap.size = w.heap.size + 1 := by simp
  rw [e1] at hr1
  have hbx := (box_new w op n A len cap 25).below ((Below.refl (w.heap.size + 1) _).alloc (by omega) (.cells #[.int .i64 0, .int .i64 0, .slice none 0 0] 25)) (by omega)
  have Hr1 := hide hr1; have HbA := hide hbA; have Hbx := hide hbx
  clear hr1 hbA e1 hbx
  have Hrv : Hid (Dom.RV ((w.alloc (.cells #[.int .i64 op, .int .i64 n, .slice A len cap] 25)).alloc (.cells #[.int .i64 0, .int .i64 0, .slice none 0 0] 25)) B Av nv lv) := hide (hrv.below (HbA.out.mono hB))
  clear hre hrv hm hnm
  obtain ⟨f0, f1, f2⟩ := Hbx.out
  go_enter Try.func18, Try.ntmps18
  go_wp2_with fail
  clear f0 f1 f2
  generalize (w.alloc (.cells #[.int .i64 op, .int .i64 n, .slice A len cap] 25)).alloc (.cells #[.int .i64 0, .int .i64 0, .slice none 0 0] 25) = W at *
  have hzW : w.heap.size + 2 ≤ W.heap.size := by omega
  clear hzA
  refine (of_any B Av nv cv lv d op n A len cap t W hnv hnc hcv (by omega) Hre.out Hrv.out Hnm.out).mono ?_
  rintro e w1 ⟨rfl, hb1⟩
  have hz1 := hb1.size
  have Hre1 := hide (Hre.out.below (hb1.mono (by omega)))
  have Hr11 := hide (Hr1.out.of_block (hb1.block _ (by omega)))
  have Hbw1 := hide (HbA.out.trans (hb1.mono (by omega)))
  have Hbx1 := hide (Hbx.out.below hb1 (by omega))
  clear hb1 Hre Hrv Hr1 HbA Hbx
  generalize sortE lv t = r at *
  obtain ⟨r1, r2⟩ := r
  simp only at Hfe Hty ⊢
  obtain ⟨f0, f1, f2⟩ := Hbx1.out
  by_cases h2 : r2 = 0
  · have h2b : (r2 != 0) = false := by simp [h2]
    rw [if_pos h2] at Hfe
    have Ht := hide (Hty.out h2)
    clear h2 Hty
    go_wp2_with fail
    clear f0 f1 f2
    refine (dfoldT_any B lv d op n A len cap t w1 (by omega) Hre1.out Hm.out Ht.out).mono ?_
    rintro e w2 ⟨y, rfl, hrq, hb2⟩
    have hz2 := hb2.size
    have Hrq := hide hrq
    have Hr12 := hide (Hr11.out.of_block (hb2.block _ (by omega)))
    have Hbw2 := hide (Hbw1.out.trans (hb2.mono (by omega)))
    clear hb2 hrq Hr11 Hbw1 Hre1 Hbx1
    obtain ⟨m0, m1, m2⟩ := bxE_cells Hr12.out
    have z0 := Hr12.out.frozen 0
    have z1 := Hr12.out.frozen 1
    have z2 := Hr12.out.frozen 2
    obtain ⟨⟨s0, s1, s2⟩, hb7, hz7, hk7⟩ := store3 (op := y.op) (n := y.n) (A := y.A) (len := y.len) (cap := y.cap) (N := w.heap.size) (r1 := w.heap.size + 1) (by omega) Hr12.out Hbw2.out
    have Hb7 := hide hb7; have Hz7 := hide hz7; have Hk7 := hide hk7
    clear hb7 hz7 hk7
    obtain ⟨yo, yn, yA, yl, yc⟩ := y
    simp only at *
    go_wp2_with fail
    clear m0 m1 m2 z0 z1 z2
    generalize ((w2.setCell ⟨w.heap.size + 1, 0, none⟩ (.int .i64 yo)).setCell ⟨w.heap.size + 1, 1, none⟩ (.int .i64 yn)).setCell ⟨w.heap.size + 1, 2, none⟩ (.slice yA yl yc) = w7 at *
    refine bodyPost_ret (v := .agg #[.int .i64 yo, .int .i64 yn, .slice yA yl yc]) (by simp [results, Try.results18, go_sem, s0, s1, s2]) rfl ?_
    refine ⟨⟨yo, yn, yA, yl, yc⟩, d, rfl, ?_, Hb7.out⟩
    rw [Hfe.out]
    exact RQ.re (Q := New w1 w2) (fun b hq => by have := Hz7.out; have := hq.2; omega) _ _ _ _ _ _ _ (RQ.keep (fun b hq => hq) (fun p hq => World.cell?_of_block (Hk7.out _ (by have := hq.1; omega))) _ _ _ _ _ _ _ Hrq.out)
  · have h2b : (r2 != 0) = true := by simp [h2]
    rw [if_neg h2] at Hfe
    clear h2 Hty
    go_wp2_with fail
    clear f0 f1 f2
    refine (copyOf_any B d op n A len cap t w1 (by omega) Hre1.out (may_sound Hm.out) ((fits_iff t).1 ((may_iff t).1 Hm.out).1).1).mono ?_
    rintro e w2 ⟨y, rfl, hrq, hb2⟩
    have hz2 := hb2.size
    have Hrq := hide hrq
    have Hr12 := hide (Hr11.out.of_block (hb2.block _ (by omega)))
    have Hbw2 := hide (Hbw1.out.trans (hb2.mono (by omega)))
    clear hb2 hrq Hr11 Hbw1 Hre1 Hbx1
    obtain ⟨m0, m1, m2⟩ := bxE_cells Hr12.out
    have z0 := Hr12.out.frozen 0
    have z1 := Hr12.out.frozen 1
    have z2 := Hr12.out.frozen 2
    obtain ⟨⟨s0, s1, s2⟩, hb7, hz7, hk7⟩ := store3 (op := y.op) (n := y.n) (A := y.A) (len := y.len) (cap := y.cap) (N := w.heap.size) (r1 := w.heap.size + 1) (by omega) Hr12.out Hbw2.out
    have Hb7 := hide hb7; have Hz7 := hide hz7; have Hk7 := hide hk7
    clear hb7 hz7 hk7
    obtain ⟨yo, yn, yA, yl, yc⟩ := y
    simp only at *
    go_wp2_with fail
    clear m0 m1 m2 z0 z1 z2
    generalize ((w2.setCell ⟨w.heap.size + 1, 0, none⟩ (.int .i64 yo)).setCell ⟨w.heap.size + 1, 1, none⟩ (.int .i64 yn)).setCell ⟨w.heap.size + 1, 2, none⟩ (.slice yA yl yc) = w7 at *
    refine bodyPost_ret (v := .agg #[.int .i64 yo, .int .i64 yn, .slice yA yl yc]) (by simp [results, Try.results18, go_sem, s0, s1, s2]) rfl ?_
    refine ⟨⟨yo, yn, yA, yl, yc⟩, d, rfl, ?_, Hb7.out⟩
    rw [Hfe.out]
    exact RQ.re (Q := New w1 w2) (fun b hq => by have := Hz7.out; have := hq.2; omega) _ _ _ _ _ _ _ (RQ.keep (fun b hq => hq) (fun p hq => World.cell?_of_block (Hk7.out _ (by have := hq.1; omega))) _ _ _ _ _ _ _ Hrq.out)
end Go.Proofs.Ytkjclofkfmkbdaa
