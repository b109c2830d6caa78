/- The walk of the reference's Fold. What a folded expression keeps: its sort, its values, its being folded. A folded expression: its sort, its values, its nodes; folded again it is the same. Of what has a sort: the bounds of its value, over the values of any states. The walks of the program's truth, within, decided and join: a node's value out of its children's. -/
import Derived.Test.YtkjclofkfmkbdaaFFold
namespace Go.Proofs.Ytkjclofkfmkbdaa
open Go.RowKit Ex
set_option linter.unusedSimpArgs false
set_option linter.unusedVariables false

def foldE (l : List Dom.V) (t : T) : T := if (sortE l t).2 = 0 then foldT l t else t
def ExprPost (t : T) (w : World) (e : Ending) (w' : World) : Prop :=
  ∃ (x : K5) (d : Nat), e = .returned (.agg #[.int .i64 x.op, .int .i64 x.n, .slice x.A x.len x.cap]) ∧ RE w' w'.heap.size d x.op x.n x.A x.len x.cap t ∧ Below w.heap.size w w'
theorem sort_may {l : List Dom.V} {t : T} (h : (sortE l t).2 = 0) : Dom.mayL l = 0 ∧ mayE t = 0 := by
  unfold sortE at h
  by_cases hm : Dom.mayL l = 0
  · rw [if_pos hm] at h
    by_cases he : mayE t = 0
    · exact ⟨hm, he⟩
    · rw [if_neg he] at h; exact absurd h he
  · rw [if_neg hm] at h; exact absurd h hm
theorem store3 {wr w : World} {N r1 : Nat} {op n op0 n0 : Int} {A A0 : Option Addr} {l0 c0 len cap : Nat} (hN : N ≤ r1) (hr1 : wr.rowIs r1 25 3 (bxE op0 n0 A0 l0 c0)) (hb : Below N w wr) :
    Box3 (((wr.setCell ⟨r1, 0, none⟩ (.int .i64 op)).setCell ⟨r1, 1, none⟩ (.int .i64 n)).setCell ⟨r1, 2, none⟩ (.slice A len cap)) r1 op n A len cap ∧
    Below N w (((wr.setCell ⟨r1, 0, none⟩ (.int .i64 op)).setCell ⟨r1, 1, none⟩ (.int .i64 n)).setCell ⟨r1, 2, none⟩ (.slice A len cap)) ∧
    (((wr.setCell ⟨r1, 0, none⟩ (.int .i64 op)).setCell ⟨r1, 1, none⟩ (.int .i64 n)).setCell ⟨r1, 2, none⟩ (.slice A len cap)).heap.size = wr.heap.size ∧
    (∀ b, b ≠ r1 → (((wr.setCell ⟨r1, 0, none⟩ (.int .i64 op)).setCell ⟨r1, 1, none⟩ (.int .i64 n)).setCell ⟨r1, 2, none⟩ (.slice A len cap)).heap[b]? = wr.heap[b]?) := by
  refine ⟨bxE_cells ((((hr1.set 0 _).set 1 _).set 2 _).congr (fun i hi => ?_)), ((hb.setCell (by exact hN) _).setCell (by exact hN) _).setCell (by exact hN) _, by simp [World.setCell], fun b hb => ?_⟩
  · have h : i = 0 ∨ i = 1 ∨ i = 2 := by omega
    rcases h with rfl | rfl | rfl <;> rfl
  · rw [Below.heap_setCell _ _ _ _ (by exact hb), Below.heap_setCell _ _ _ _ (by exact hb), Below.heap_setCell _ _ _ _ (by exact hb)]

set_option maxRecDepth 100000 in
set_option maxHeartbeats 4000000 in
theorem rfold_any (B : Nat) (Av : Option Addr) (nv cv : Nat) (lv : List Dom.V) (d : Nat) (op n : Int) (A : Option Addr) (len cap : Nat) (t : T) (w : World) (hnv : nv ≤ maxLen) (hnc : nv ≤ cv) (hcv : cv ≤ maxLen) (hB : B ≤ w.heap.size) (hre : RE w B d op n A len cap t) (hrv : Dom.RV w B Av nv lv) (hnm : ∀ v ∈ lv, v.nm.size ≤ maxLen) :
    Calls Try.prog 19 #[.slice Av nv cv, .agg #[.int .i64 op, .int .i64 n, .slice A len cap]] w (ExprPost (foldE lv t) w) := by
  have hbA : Below w.heap.size w ((w.alloc (.cells #[.int .i64 op, .int .i64 n, .slice A len cap] 25)).alloc (.cells #[.int .i64 0, .int .i64 0, .slice none 0 0] 25)) := ((Below.refl _ _).alloc (Nat.le_refl _) _).alloc (by simp) _
  have Hre := hide (hre.below (hbA.mono hB))
  have Hrv := hide (hrv.below (hbA.mono hB))
  have Hnm := hide hnm
  have hr1 := bxE_new (w.alloc (.cells #[.int .i64 op, .int .i64 n, .slice A len cap] 25)) 0 0 none 0 0
  have hzA : ((w.alloc (.cells #[.int .i64 op, .int .i64 n, .slice A len cap] 25)).alloc (.cells #[.int .i64 0, .int .i64 0, .slice none 0 0] 25)).heap.size = w.heap.size + 2 := by simp
  have e1 : (w.alloc (.cells #[.int .i64 op, .int .i64 n, .slice A len cap] 25)).heap.size = w.heap.size + 1 := by simp
  rw [e1] at hr1
  have hbx := (box_new w op n A len cap 25).below ((Below.refl (w.heap.size + 1) _).alloc (by omega) (.cells #[.int .i64 0, .int .i64 0, .slice none 0 0] 25)) (by omega)
  have Hr1 := hide hr1; have HbA := hide hbA; have Hbx := hide hbx
  have Hfe : Hid (foldE lv t = if (sortE lv t).2 = 0 then foldT lv t else t) := hide rfl
  have Hmay : Hid ((sortE lv t).2 = 0 → mayE t = 0) := hide (fun h => (sort_may h).2)
  clear hre hrv hbA hr1 e1 hnm
  obtain ⟨f0, f1, f2⟩ := hbx
  go_enter Try.func19, Try.ntmps19
  go_wp2_with fail
  clear f0 f1 f2
  generalize (w.alloc (.cells #[.int .i64 op, .int .i64 n, .slice A len cap] 25)).alloc (.cells #[.int .i64 0, .int .i64 0, .slice none 0 0] 25) = W at *
  have hzW : w.heap.size + 2 ≤ W.heap.size := by omega
  clear hzA
  have hBW : B ≤ W.heap.size := by omega
  refine (rsort_any B Av nv cv lv d op n A len cap t W hnv hnc hcv hBW Hre.out Hrv.out Hnm.out).mono ?_
  rintro e w1 ⟨rfl, hb1⟩
  have hz1 := hb1.size
  have Hb1 := hide hb1
  have Hre1 := hide (Hre.out.below (hb1.mono hBW))
  have Hrv1 := hide (Hrv.out.below (hb1.mono hBW))
  have Hr11 := hide (Hr1.out.of_block (hb1.block _ (by omega)))
  have Hbw1 := hide (HbA.out.trans (hb1.mono (by omega)))
  have Hbx1 := hide (Hbx.out.below hb1 (by omega))
  clear hb1 Hre Hrv Hr1 HbA Hbx
  generalize sortE lv t = r at *
  obtain ⟨r1, r2⟩ := r
  simp only at Hfe Hmay ⊢
  obtain ⟨f0, f1, f2⟩ := Hbx1.out
  by_cases h2 : r2 = 0
  · have h2b : (r2 != 0) = false := by simp [h2]
    rw [if_pos h2] at Hfe
    have hmay := Hmay.out h2
    have Hm := hide hmay
    clear h2 Hmay hmay
    go_wp2_with fail
    clear f0 f1 f2
    refine (copied_any B d op n A len cap t w1 (by omega) Hre1.out (may_sound Hm.out)).mono ?_
    rintro e w2 ⟨x, rfl, hrq, hb2⟩
    have hz2 := hb2.size
    have Hrv2 := hide ((Hrv1.out.below (hb2.mono (by omega))).more (B' := w2.heap.size) (by omega))
    have Hre2 := hide (RQ.re (B := w2.heap.size) (fun b hq => hq.2) _ _ _ _ _ _ _ hrq)
    have Hr12 := hide (Hr11.out.of_block (hb2.block _ (by omega)))
    have Hbw2 := hide (Hbw1.out.trans (hb2.mono (by omega)))
    clear hb2 hrq Hrv1 Hre1 Hr11 Hbw1 Hbx1
    go_wp2_with fail
    refine (fold_any w2.heap.size Av nv cv lv hnv d x.op x.n x.A x.len x.cap t w2 (Nat.le_refl _) Hre2.out Hm.out Hrv2.out).mono ?_
    rintro e w3 ⟨y, rfl, hrq, hb3⟩
    have hz3 := hb3.size
    have Hrq := hide hrq
    have Hr13 := hide (Hr12.out.of_block (hb3.block _ (by omega)))
    have Hbw3 := hide (Hbw2.out.trans (hb3.mono (by omega)))
    clear hb3 hrq Hr12 Hbw2
    obtain ⟨m0, m1, m2⟩ := bxE_cells Hr13.out
    have z0 := Hr13.out.frozen 0
    have z1 := Hr13.out.frozen 1
    have z2 := Hr13.out.frozen 2
    obtain ⟨⟨s0, s1, s2⟩, hb7, hz7, hk7⟩ := store3 (op := y.op) (n := y.n) (A := y.A) (len := y.len) (cap := y.cap) (N := w.heap.size) (r1 := w.heap.size + 1) (by omega) Hr13.out Hbw3.out
    have Hb7 := hide hb7; have Hz7 := hide hz7; have Hk7 := hide hk7
    clear hb7 hz7 hk7
    obtain ⟨yo, yn, yA, yl, yc⟩ := y
    simp only at *
    go_wp2_with fail
    clear m0 m1 m2 z0 z1 z2
    generalize ((w3.setCell ⟨w.heap.size + 1, 0, none⟩ (.int .i64 yo)).setCell ⟨w.heap.size + 1, 1, none⟩ (.int .i64 yn)).setCell ⟨w.heap.size + 1, 2, none⟩ (.slice yA yl yc) = w7 at *
    refine bodyPost_ret (v := .agg #[.int .i64 yo, .int .i64 yn, .slice yA yl yc]) (by simp [results, Try.results19, go_sem, s0, s1, s2]) rfl ?_
    refine ⟨⟨yo, yn, yA, yl, yc⟩, d, rfl, ?_, Hb7.out⟩
    rw [Hfe.out]
    refine RQ.re (Q := New w2 w3) (fun b hq => by have := Hz7.out; have := hq.2; omega) _ _ _ _ _ _ _ (RQ.keep (fun b hq => hq) (fun p hq => World.cell?_of_block (Hk7.out _ (by have := hq.1; omega))) _ _ _ _ _ _ _ Hrq.out)
  · have h2b : (r2 != 0) = true := by simp [h2]
    rw [if_neg h2] at Hfe
    clear h2 Hmay
    obtain ⟨m0, m1, m2⟩ := bxE_cells Hr11.out
    have z0 := Hr11.out.frozen 0
    have z1 := Hr11.out.frozen 1
    have z2 := Hr11.out.frozen 2
    obtain ⟨⟨s0, s1, s2⟩, hb7, hz7, hk7⟩ := store3 (op := op) (n := n) (A := A) (len := len) (cap := cap) (N := w.heap.size) (r1 := w.heap.size + 1) (by omega) Hr11.out Hbw1.out
    have Hb7 := hide hb7; have Hz7 := hide hz7; have Hk7 := hide hk7
    clear hb7 hz7 hk7
    go_wp2_with fail
    clear m0 m1 m2 z0 z1 z2
    generalize ((w1.setCell ⟨w.heap.size + 1, 0, none⟩ (.int .i64 op)).setCell ⟨w.heap.size + 1, 1, none⟩ (.int .i64 n)).setCell ⟨w.heap.size + 1, 2, none⟩ (.slice A len cap) = w7 at *
    refine bodyPost_ret (v := .agg #[.int .i64 op, .int .i64 n, .slice A len cap]) (by simp [results, Try.results19, go_sem, s0, s1, s2]) rfl ?_
    refine ⟨⟨op, n, A, len, cap⟩, d, rfl, ?_, Hb7.out⟩
    rw [Hfe.out]
    exact RE.more (by have := Hz7.out; omega) _ _ _ _ _ _ _ (RE.keep (fun p hp => World.cell?_of_block (Hk7.out _ (by omega))) _ _ _ _ _ _ _ Hre1.out)
end Go.Proofs.Ytkjclofkfmkbdaa
namespace Go.Proofs.Ytkjclofkfmkbdaa
open Go.RowKit Ex
set_option linter.unusedSimpArgs false
set_option linter.unusedVariables false

mutual
theorem T.ind {P : T → Prop} (h : ∀ op n ks, (∀ u ∈ ks, P u) → P (.mk op n ks)) : ∀ t, P t
  | .mk op n ks => h op n ks (T.indK h ks)
theorem T.indK {P : T → Prop} (h : ∀ op n ks, (∀ u ∈ ks, P u) → P (.mk op n ks)) : ∀ ks : List T, ∀ u ∈ ks, P u
  | [], u, hu => absurd hu (by simp)
  | k :: r, u, hu => match List.mem_cons.1 hu with
    | .inl e => e ▸ T.ind h k
    | .inr hu => T.indK h r u hu
end
theorem soundK_mem {ks : List T} (h : soundK ks = true) {u : T} (hu : u ∈ ks) : sound u = true := by
  obtain ⟨k, hk⟩ := List.getElem?_of_mem hu
  exact soundK_at ks k u h hk
theorem soundK_of : ∀ {ks : List T}, (∀ u ∈ ks, sound u = true) → soundK ks = true
  | [], _ => by rw [soundK]
  | k :: r, h => by rw [soundK, h k (by simp), soundK_of (fun u hu => h u (by simp [hu]))]; rfl
theorem noRdK_mem : ∀ {ks : List T}, noRdK ks = true → ∀ u ∈ ks, noRd u = true
  | [], _, u, hu => absurd hu (by simp)
  | k :: r, h, u, hu => by
    rw [noRdK, Bool.and_eq_true] at h
    rcases List.mem_cons.1 hu with rfl | hu
    · exact h.1
    · exact noRdK_mem h.2 u hu
theorem tyK_mem {l : List Dom.V} : ∀ {ks : List T}, (tyK l ks).2 = 0 → ∀ u ∈ ks, (tyT l u).2 = 0
  | [], _, u, hu => absurd hu (by simp)
  | k :: r, h, u, hu => by
    rw [tyK] at h
    by_cases hk : (tyT l k).2 = 0
    · rw [if_pos hk] at h
      rcases List.mem_cons.1 hu with rfl | hu
      · exact hk
      · exact tyK_mem h u hu
    · rw [if_neg hk] at h
      exact absurd h hk
theorem ty_kids {l : List Dom.V} {op n : Int} {ks : List T} (h : (tyT l (.mk op n ks)).2 = 0) : (tyK l ks).2 = 0 ∧ tyT l (.mk op n ks) = tyN l op n (tyK l ks).1 := by
  rw [tyT] at h ⊢
  by_cases hk : (tyK l ks).2 = 0
  · rw [if_pos hk]; exact ⟨hk, rfl⟩
  · rw [if_neg hk] at h; exact absurd h hk
theorem shape {op n : Int} {ks : List T} (h : sound (.mk op n ks) = true) :
    ((op = 1 ∧ -1000 ≤ n ∧ n ≤ 1000 ∧ ks = []) ∨ (op = 2 ∧ (n = 0 ∨ n = 1) ∧ ks = []) ∨ ((op = 3 ∨ op = 4) ∧ 0 ≤ n ∧ n < 6 ∧ ks = []) ∨ (op = 5 ∧ n = 0 ∧ ∃ a, ks = [a]) ∨ (6 ≤ op ∧ op ≤ 14 ∧ n = 0 ∧ ∃ a b, ks = [a, b]) ∨ (op = 15 ∧ n = 0 ∧ ∃ a b c, ks = [a, b, c])) := by
  have hl := sound_len15' h
  have ho := sound_op h
  simp only [T.op, T.kids] at hl ho
  have hn : nodeN op n = true := by
    rw [sound_eq, nodeB_eq, Bool.and_eq_true, Bool.and_eq_true] at h
    exact h.1.2
  unfold nodeN at hn
  unfold kidsOf at hl
  rcases ks with _ | ⟨a, _ | ⟨b, _ | ⟨c, _ | ⟨e, r⟩⟩⟩⟩
  · simp at hl
    by_cases h1 : op = 1
    · simp [h1] at hn ⊢; exact hn
    · by_cases h2 : op = 2
      · simp [h2] at hn ⊢; exact hn
      · by_cases h34 : op = 3 ∨ op = 4
        · rw [if_neg h1, if_neg h2, if_pos h34] at hn
          simp at hn
          exact .inr (.inr (.inl ⟨h34, hn.1, hn.2, rfl⟩))
        · exfalso; revert hl; (repeat' split) <;> omega
  · simp at hl
    have h5 : op = 5 := by revert hl; (repeat' split) <;> omega
    subst h5
    simp at hn
    exact .inr (.inr (.inr (.inl ⟨rfl, hn, a, rfl⟩)))
  · simp at hl
    have h6 : 6 ≤ op ∧ op ≤ 14 := by revert hl; (repeat' split) <;> omega
    rw [if_neg (by omega), if_neg (by omega), if_neg (by omega)] at hn
    simp at hn
    exact .inr (.inr (.inr (.inr (.inl ⟨h6.1, h6.2, hn, a, b, rfl⟩))))
  · simp at hl
    have h15 : op = 15 := by revert hl; (repeat' split) <;> omega
    subst h15
    simp at hn
    exact .inr (.inr (.inr (.inr (.inr ⟨rfl, hn, a, b, c, rfl⟩))))
  · simp at ho
/- what reads nothing has one value, whatever the states -/
theorem vK_same {a b a2 b2 : List Int} : ∀ {ks : List T}, (∀ u ∈ ks, vT a b u = vT a2 b2 u) → vK a b ks = vK a2 b2 ks
  | [], _ => by rw [vK, vK]
  | k :: r, h => by rw [vK, vK, h k (by simp), vK_same (fun u hu => h u (by simp [hu]))]
theorem noRd_val (a b a2 b2 : List Int) : ∀ t, noRd t = true → vT a b t = vT a2 b2 t := T.ind (fun op n ks ih h => by
  rw [noRd, Bool.and_eq_true, Bool.and_eq_true] at h
  have h3 := h.1.1; have h4 := h.1.2
  simp at h3 h4
  rw [vT, vT, vK_same (fun u hu => ih u hu (noRdK_mem h.2 u hu))]
  unfold vN
  rw [if_neg h3, if_neg h4, if_neg h3, if_neg h4])
/- of what reads nothing: its sort, and the bounds of its value -/
def Fine (s : Int) (v : Option Int) : Prop := (s = 1 ∨ s = 2) ∧ ∀ x, v = some x → (s = 1 → x = 0 ∨ x = 1) ∧ (s = 2 → -1000 ≤ x ∧ x ≤ 1000)
theorem vIn_some {z x : Int} (h : vIn z = some x) : z = x ∧ -1000 ≤ x ∧ x ≤ 1000 := by
  unfold vIn at h
  split at h
  · injection h with h; subst h; exact ⟨rfl, by assumption⟩
  · cases h
theorem bit_bd (p : Bool) : bitI p = 0 ∨ bitI p = 1 := by cases p <;> simp [bitI]
theorem fine_two {l : List Dom.V} {va vb : List Int} {op : Int} {a b : T} (h6 : 6 ≤ op) (h14 : op ≤ 14) (ha : (tyT l a).2 = 0) (hb : (tyT l b).2 = 0) (hfa : Fine (tyT l a).1 (vT va vb a)) (hfb : Fine (tyT l b).1 (vT va vb b)) (hty : (tyT l (.mk op 0 [a, b])).2 = 0) : Fine (tyT l (.mk op 0 [a, b])).1 (vT va vb (.mk op 0 [a, b])) := by
  obtain ⟨_, hk2⟩ := ty_kids hty
  rw [hk2] at hty ⊢
  rw [vT, vK, vK, vK]
  rw [tyK, tyK, tyK, if_pos ha, if_pos hb] at hty ⊢
  generalize tyT l a = ta at *
  generalize tyT l b = tb at *
  obtain ⟨sa, ea⟩ := ta
  obtain ⟨sb, eb⟩ := tb
  generalize vT va vb a = xa at *
  generalize vT va vb b = xb at *
  unfold tyN at hty ⊢
  unfold vN
  simp only [List.getD_cons_zero, List.getD_cons_succ] at hty ⊢
  have hop : op = 6 ∨ op = 7 ∨ op = 8 ∨ op = 9 ∨ op = 10 ∨ op = 11 ∨ op = 12 ∨ op = 13 ∨ op = 14 := by omega
  rcases hop with rfl | rfl | rfl | rfl | rfl | rfl | rfl | rfl | rfl <;> simp at hty ⊢
  · split at hty
    · rename_i hs
      rw [if_pos hs]
      obtain ⟨rfl, rfl⟩ := hs
      refine ⟨by simp, fun x hx => ⟨fun _ => ?_, fun h => by simp at h⟩⟩
      cases xa with
      | none => simp at hx
      | some p =>
        simp only at hx
        split at hx
        · simp at hx; omega
        · cases xb with
          | none => simp at hx
          | some q =>
            have h1 := vIn_some hx
            have h2 := (hfb.2 q rfl).1 rfl
            simp [vOp] at h1
            omega
    · simp at hty
  · split at hty
    · rename_i hs
      rw [if_pos hs]
      obtain ⟨rfl, rfl⟩ := hs
      refine ⟨by simp, fun x hx => ⟨fun _ => ?_, fun h => by simp at h⟩⟩
      cases xa with
      | none => simp at hx
      | some p =>
        simp only at hx
        split at hx
        · simp at hx; omega
        · cases xb with
          | none => simp at hx
          | some q =>
            have h1 := vIn_some hx
            have h2 := (hfb.2 q rfl).1 rfl
            simp [vOp] at h1
            omega
    · simp at hty
  · split at hty
    · rename_i hs
      rw [if_pos hs]
      obtain ⟨rfl, rfl⟩ := hs
      refine ⟨by simp, fun x hx => ⟨fun _ => ?_, fun h => by simp at h⟩⟩
      cases xa with
      | none => simp at hx
      | some p =>
        simp only at hx
        split at hx
        · simp at hx; omega
        · cases xb with
          | none => simp at hx
          | some q =>
            have h1 := vIn_some hx
            have h2 := (hfb.2 q rfl).1 rfl
            simp [vOp] at h1
            omega
    · simp at hty
  · split at hty
    · rename_i hs
      rw [if_pos hs]
      refine ⟨by simp, fun x hx => ⟨fun _ => ?_, fun h => by simp at h⟩⟩
      cases xa with
      | none => simp at hx
      | some p =>
        cases xb with
        | none => simp at hx
        | some q =>
          have h1 := vIn_some hx
          rw [← h1.1]
          simp only [vOp]
          exact bit_bd _
    · simp at hty
  · split at hty
    · rename_i hs
      rw [if_pos hs]
      refine ⟨by simp, fun x hx => ⟨fun _ => ?_, fun h => by simp at h⟩⟩
      cases xa with
      | none => simp at hx
      | some p =>
        cases xb with
        | none => simp at hx
        | some q =>
          have h1 := vIn_some hx
          rw [← h1.1]
          simp only [vOp]
          exact bit_bd _
    · simp at hty
  · split at hty
    · rename_i hs
      rw [if_pos hs]
      refine ⟨by simp, fun x hx => ⟨fun _ => ?_, fun h => by simp at h⟩⟩
      cases xa with
      | none => simp at hx
      | some p =>
        cases xb with
        | none => simp at hx
        | some q =>
          have h1 := vIn_some hx
          rw [← h1.1]
          simp only [vOp]
          exact bit_bd _
    · simp at hty
  · split at hty
    · rename_i hs
      rw [if_pos hs]
      refine ⟨by simp, fun x hx => ⟨fun h => by simp at h, fun _ => ?_⟩⟩
      cases xa with
      | none => simp at hx
      | some p =>
        cases xb with
        | none => simp at hx
        | some q => exact (vIn_some hx).2
    · simp at hty
  · split at hty
    · rename_i hs
      rw [if_pos hs]
      refine ⟨by simp, fun x hx => ⟨fun h => by simp at h, fun _ => ?_⟩⟩
      cases xa with
      | none => simp at hx
      | some p =>
        cases xb with
        | none => simp at hx
        | some q => exact (vIn_some hx).2
    · simp at hty
  · split at hty
    · rename_i hs
      rw [if_pos hs]
      refine ⟨by simp, fun x hx => ⟨fun h => by simp at h, fun _ => ?_⟩⟩
      cases xa with
      | none => simp at hx
      | some p =>
        cases xb with
        | none => simp at hx
        | some q => exact (vIn_some hx).2
    · simp at hty
theorem fine_all (l : List Dom.V) (va vb : List Int) : ∀ t, sound t = true → noRd t = true → (tyT l t).2 = 0 → Fine (tyT l t).1 (vT va vb t) := T.ind (fun op n ks ih hs hn hty => by
  have hk := (ty_kids hty).1
  have hsk := sound_kids hs
  simp only [T.kids] at hsk
  have hnk : noRdK ks = true := by rw [noRd, Bool.and_eq_true] at hn; exact hn.2
  have Hk : ∀ u ∈ ks, (tyT l u).2 = 0 ∧ Fine (tyT l u).1 (vT va vb u) := fun u hu => ⟨tyK_mem hk u hu, ih u hu (soundK_mem hsk hu) (noRdK_mem hnk u hu) (tyK_mem hk u hu)⟩
  rcases shape hs with ⟨rfl, h1, h2, rfl⟩ | ⟨rfl, h1, rfl⟩ | ⟨h34, _⟩ | ⟨rfl, rfl, a, rfl⟩ | ⟨h6, h14, rfl, a, b, rfl⟩ | ⟨rfl, rfl, a, b, c, rfl⟩
  · rw [tyT, tyK, vT, vK]
    refine ⟨by simp [tyN], fun x hx => ?_⟩
    simp [vN] at hx
    subst hx
    simp [tyN]
    omega
  · rw [tyT, tyK, vT, vK]
    refine ⟨by simp [tyN], fun x hx => ?_⟩
    simp [vN] at hx
    subst hx
    simp [tyN]
    omega
  · exfalso
    rw [noRd] at hn
    rcases h34 with rfl | rfl <;> simp at hn
  · obtain ⟨ha, hfa⟩ := Hk a (by simp)
    have e := (ty_kids hty).2
    rw [e] at hty ⊢
    rw [vT, vK, vK]
    rw [tyK, tyK, if_pos ha] at hty ⊢
    generalize tyT l a = ta at *
    obtain ⟨sa, ea⟩ := ta
    generalize vT va vb a = xa at *
    unfold tyN at hty ⊢
    unfold vN
    simp at hty ⊢
    split at hty
    · rename_i h
      rw [if_pos h]
      subst h
      refine ⟨by simp, fun x hx => ⟨fun _ => ?_, fun h => by simp at h⟩⟩
      cases xa with
      | none => simp at hx
      | some p =>
        have h2 := (hfa.2 p rfl).1 rfl
        simp at hx
        omega
    · simp at hty
  · obtain ⟨ha, hfa⟩ := Hk a (by simp)
    obtain ⟨hb, hfb⟩ := Hk b (by simp)
    exact fine_two h6 h14 ha hb hfa hfb hty
  · obtain ⟨ha, hfa⟩ := Hk a (by simp)
    obtain ⟨hb, hfb⟩ := Hk b (by simp)
    obtain ⟨hc, hfc⟩ := Hk c (by simp)
    have e := (ty_kids hty).2
    rw [e] at hty ⊢
    rw [vT, vK, vK, vK, vK]
    rw [tyK, tyK, tyK, tyK, if_pos ha, if_pos hb, if_pos hc] at hty ⊢
    generalize tyT l a = ta at *
    generalize tyT l b = tb at *
    generalize tyT l c = tc at *
    obtain ⟨sa, ea⟩ := ta
    obtain ⟨sb, eb⟩ := tb
    obtain ⟨sc, ec⟩ := tc
    generalize vT va vb a = xa at *
    generalize vT va vb b = xb at *
    generalize vT va vb c = xc at *
    unfold tyN at hty ⊢
    unfold vN
    simp at hty ⊢
    split at hty
    · rename_i h
      rw [if_pos h]
      obtain ⟨rfl, rfl⟩ := h
      refine ⟨hfb.1, fun x hx => ?_⟩
      cases xa with
      | none => simp at hx
      | some p =>
        simp only at hx
        split at hx
        · exact hfc.2 x (by simpa using hx)
        · cases xb with
          | none => simp at hx
          | some q =>
            have h1 := vIn_some hx
            simp [vOp] at h1
            obtain ⟨rfl, _⟩ := h1
            exact hfb.2 q rfl
    · simp at hty)
end Go.Proofs.Ytkjclofkfmkbdaa
namespace Go.Proofs.Ytkjclofkfmkbdaa
open Go.RowKit Ex
set_option linter.unusedSimpArgs false
set_option linter.unusedVariables false

/- the two ways of folding a node -/
theorem fold_ways (l : List Dom.V) (op n : Int) (ks : List T) : (noRd (.mk op n ks) = true ∧ ∃ x, vT [] [] (.mk op n ks) = some x ∧ foldT l (.mk op n ks) = .mk (if (tyT l (.mk op n ks)).1 = 1 then 2 else 1) x []) ∨ ((noRd (.mk op n ks) = true → vT [] [] (.mk op n ks) = none) ∧ foldT l (.mk op n ks) = .mk op n (foldK l ks)) := by
  rw [foldT]
  by_cases hn : noRd (.mk op n ks) = true
  · cases hv : vT [] [] (.mk op n ks) with
    | none => right; simp [hn]
    | some x => left; simp [hn]
  · right; simp [hn]
theorem foldK_mem {l : List Dom.V} : ∀ {ks : List T} {u : T}, u ∈ foldK l ks → ∃ v ∈ ks, u = foldT l v
  | [], u, h => by rw [foldK] at h; simp at h
  | k :: r, u, h => by
    rw [foldK] at h
    rcases List.mem_cons.1 h with rfl | h
    · exact ⟨k, by simp, rfl⟩
    · obtain ⟨v, hv, e⟩ := foldK_mem h
      exact ⟨v, by simp [hv], e⟩
theorem tyK_fold {l : List Dom.V} : ∀ {ks : List T}, (∀ u ∈ ks, tyT l (foldT l u) = tyT l u) → tyK l (foldK l ks) = tyK l ks
  | [], _ => by rw [foldK]
  | k :: r, h => by rw [foldK, tyK, tyK, h k (by simp), tyK_fold (fun u hu => h u (by simp [hu]))]
theorem vK_fold {l : List Dom.V} {a b : List Int} : ∀ {ks : List T}, (∀ u ∈ ks, vT a b (foldT l u) = vT a b u) → vK a b (foldK l ks) = vK a b ks
  | [], _ => by rw [foldK]
  | k :: r, h => by rw [foldK, vK, vK, h k (by simp), vK_fold (fun u hu => h u (by simp [hu]))]
theorem noRdK_fold {l : List Dom.V} : ∀ {ks : List T}, (∀ u ∈ ks, noRd (foldT l u) = noRd u) → noRdK (foldK l ks) = noRdK ks
  | [], _ => by rw [foldK]
  | k :: r, h => by rw [foldK, noRdK, noRdK, h k (by simp), noRdK_fold (fun u hu => h u (by simp [hu]))]
theorem foldK_fold {l : List Dom.V} : ∀ {ks : List T}, (∀ u ∈ ks, foldT l (foldT l u) = foldT l u) → foldK l (foldK l ks) = foldK l ks
  | [], _ => by rw [foldK, foldK]
  | k :: r, h => by rw [foldK, foldK, h k (by simp), foldK_fold (fun u hu => h u (by simp [hu]))]
theorem leaf_ty (l : List Dom.V) (s x : Int) (hs : s = 1 ∨ s = 2) : tyT l (.mk (if s = 1 then 2 else 1) x []) = (s, 0) := by
  rw [tyT, tyK]
  rcases hs with rfl | rfl <;> simp [tyN]
theorem leaf_val (a b : List Int) (s x : Int) : vT a b (.mk (if s = 1 then 2 else 1) x []) = some x := by
  rw [vT, vK]
  unfold vN
  by_cases h : s = 1 <;> simp [h]
theorem leaf_noRd (s x : Int) : noRd (.mk (if s = 1 then 2 else 1) x []) = true := by
  rw [noRd, noRdK]
  by_cases h : s = 1 <;> simp [h]
theorem fold_ty (l : List Dom.V) : ∀ t, sound t = true → (tyT l t).2 = 0 → tyT l (foldT l t) = tyT l t := T.ind (fun op n ks ih hs hty => by
  rcases fold_ways l op n ks with ⟨hn, x, hv, e⟩ | ⟨_, e⟩
  · have hf := fine_all l [] [] (.mk op n ks) hs hn hty
    rw [e, leaf_ty l _ x hf.1]
    exact Prod.ext rfl hty.symm
  · have hk := (ty_kids hty).1
    have hsk := sound_kids hs
    simp only [T.kids] at hsk
    rw [e, tyT, tyT, tyK_fold (fun u hu => ih u hu (soundK_mem hsk hu) (tyK_mem hk u hu))])
theorem fold_val (l : List Dom.V) (a b : List Int) : ∀ t, vT a b (foldT l t) = vT a b t := T.ind (fun op n ks ih => by
  rcases fold_ways l op n ks with ⟨hn, x, hv, e⟩ | ⟨_, e⟩
  · rw [e, leaf_val, noRd_val a b [] [] _ hn, hv]
  · rw [e, vT, vT, vK_fold (fun u hu => ih u hu)])
theorem fold_noRd (l : List Dom.V) : ∀ t, noRd (foldT l t) = noRd t := T.ind (fun op n ks ih => by
  rcases fold_ways l op n ks with ⟨hn, x, hv, e⟩ | ⟨_, e⟩
  · rw [e, leaf_noRd, hn]
  · rw [e, noRd, noRd, noRdK_fold (fun u hu => ih u hu)])
theorem fold_again (l : List Dom.V) : ∀ t, sound t = true → (tyT l t).2 = 0 → foldT l (foldT l t) = foldT l t := T.ind (fun op n ks ih hs hty => by
  have hT := fold_ty l (.mk op n ks) hs hty
  rcases fold_ways l op n ks with ⟨hn, x, hv, e⟩ | ⟨h0, e⟩
  · rw [foldT_eq l (foldT l _), fold_noRd, hn, hT]
    rw [fold_val, hv, e]
    simp
  · have hk := (ty_kids hty).1
    have hsk := sound_kids hs
    simp only [T.kids] at hsk
    rw [foldT_eq l (foldT l _), fold_noRd, hT, fold_val]
    have e2 : foldK l (foldT l (.mk op n ks)).kids = foldK l ks := by
      rw [e]
      exact foldK_fold (fun u hu => ih u hu (soundK_mem hsk hu) (tyK_mem hk u hu))
    rw [e2, e]
    by_cases hn : noRd (.mk op n ks) = true
    · rw [if_pos hn, h0 hn]; rfl
    · rw [if_neg hn]; rfl)
theorem fzK_fold {l : List Dom.V} : ∀ {ks : List T}, (∀ u ∈ ks, fz (foldT l u) ≤ fz u) → fzK (foldK l ks) ≤ fzK ks
  | [], _ => by rw [foldK]; exact Int.le_refl _
  | k :: r, h => by
    rw [foldK, fzK, fzK]
    have := h k (by simp)
    have := fzK_fold (fun u hu => h u (by simp [hu]) : ∀ u ∈ r, _)
    omega
theorem fold_fz (l : List Dom.V) : ∀ t, fz (foldT l t) ≤ fz t := T.ind (fun op n ks ih => by
  rcases fold_ways l op n ks with ⟨hn, x, hv, e⟩ | ⟨_, e⟩
  · rw [e, fz, fz, fzK]
    have := fzK_pos ks
    omega
  · rw [e, fz, fz]
    have := fzK_fold ih
    omega)
theorem dpK_fold {l : List Dom.V} : ∀ {ks : List T} {dep : Int}, (∀ u ∈ ks, ∀ dep, dp u dep = false → dp (foldT l u) dep = false) → dpK ks dep = false → dpK (foldK l ks) dep = false
  | [], _, _, h => by rw [foldK]; exact h
  | k :: r, dep, hk, h => by
    rw [dpK, Bool.or_eq_false_iff] at h
    rw [foldK, dpK, hk k (by simp) _ h.1, dpK_fold (fun u hu => hk u (by simp [hu])) h.2]; rfl
theorem fold_dp (l : List Dom.V) : ∀ t, ∀ dep, dp t dep = false → dp (foldT l t) dep = false := T.ind (fun op n ks ih dep h => by
  rcases fold_ways l op n ks with ⟨hn, x, hv, e⟩ | ⟨_, e⟩
  · rw [e, dp, dpK]; simp
  · rw [e, dp]
    rw [dp] at h
    by_cases hd : dep = 12
    · rw [if_pos hd] at h ⊢
      rw [foldK_len]; exact h
    · rw [if_neg hd] at h ⊢
      exact dpK_fold ih h)
theorem sound_num {x : Int} (h : -1000 ≤ x ∧ x ≤ 1000) : sound (.mk 1 x []) = true := by
  have h1 : nodeN 1 x = true := by simp [nodeN, h]
  have h2 : decide ((([] : List T).length : Int) = kidsOf 1) = true := by decide
  rw [sound, soundK, nodeB_eq, h1, h2]; rfl
theorem sound_bool {x : Int} (h : x = 0 ∨ x = 1) : sound (.mk 2 x []) = true := by
  have h1 : nodeN 2 x = true := by simp [nodeN, h]
  have h2 : decide ((([] : List T).length : Int) = kidsOf 2) = true := by decide
  rw [sound, soundK, nodeB_eq, h1, h2]; rfl
theorem fold_sound (l : List Dom.V) : ∀ t, sound t = true → (tyT l t).2 = 0 → sound (foldT l t) = true := T.ind (fun op n ks ih hs hty => by
  rcases fold_ways l op n ks with ⟨hn, x, hv, e⟩ | ⟨_, e⟩
  · have hf := fine_all l [] [] (.mk op n ks) hs hn hty
    have hb := hf.2 x hv
    rw [e]
    by_cases h1 : (tyT l (.mk op n ks)).1 = 1
    · rw [if_pos h1]
      exact sound_bool (hb.1 h1)
    · have h2 : (tyT l (.mk op n ks)).1 = 2 := by
        rcases hf.1 with h | h
        · exact absurd h h1
        · exact h
      rw [if_neg h1]
      exact sound_num (hb.2 h2)
  · have hk := (ty_kids hty).1
    have hsk := sound_kids hs
    simp only [T.kids] at hsk
    rw [sound_eq, Bool.and_eq_true] at hs
    rw [e, sound_eq]
    simp only [T.kids, T.op, T.n] at hs ⊢
    rw [foldK_len, hs.1, soundK_of (fun u hu => by
      obtain ⟨v, hv, rfl⟩ := foldK_mem hu
      exact ih v hv (soundK_mem hsk hv) (tyK_mem hk v hv))]
    rfl)
theorem fold_may {l : List Dom.V} {t : T} (h : mayE t = 0) (hty : (tyT l t).2 = 0) : mayE (foldT l t) = 0 := by
  obtain ⟨hf, hs⟩ := (may_iff t).1 h
  obtain ⟨h1, h2⟩ := (fits_iff t).1 hf
  refine (may_iff _).2 ⟨(fits_iff _).2 ⟨?_, fold_dp l t 1 h2⟩, fold_sound l t hs hty⟩
  have := fold_fz l t
  omega
/- Fold as a whole -/
theorem sort_ty {l : List Dom.V} {t : T} (h : (sortE l t).2 = 0) : sortE l t = tyT l t := by
  obtain ⟨h1, h2⟩ := sort_may h
  unfold sortE
  rw [if_pos h1, if_pos h2]
theorem foldE_may {l : List Dom.V} {t : T} (h : mayE t = 0) : mayE (foldE l t) = 0 := by
  unfold foldE
  by_cases hs : (sortE l t).2 = 0
  · rw [if_pos hs]
    rw [sort_ty hs] at hs
    exact fold_may h hs
  · rw [if_neg hs]; exact h
theorem foldE_sort {l : List Dom.V} {t : T} (h : mayE t = 0) : sortE l (foldE l t) = sortE l t := by
  by_cases hs : (sortE l t).2 = 0
  · have hm := foldE_may (l := l) h
    have hty : (tyT l t).2 = 0 := by rw [← sort_ty hs]; exact hs
    unfold foldE at hm ⊢
    rw [if_pos hs] at hm ⊢
    rw [sort_ty hs]
    unfold sortE
    rw [if_pos (sort_may hs).1, if_pos hm, fold_ty l t (may_sound h) hty]
  · unfold foldE; rw [if_neg hs]
theorem foldE_val {l : List Dom.V} {t : T} (h : mayE t = 0) (now next : Int) : valE l (foldE l t) now next = valE l t now next := by
  unfold valE
  rw [foldE_sort h]
  by_cases hs : (sortE l t).2 = 0
  · rw [if_pos hs, if_pos hs]
    unfold foldE
    rw [if_pos hs, fold_val]
  · rw [if_neg hs, if_neg hs]
theorem foldE_again {l : List Dom.V} {t : T} (h : mayE t = 0) : foldE l (foldE l t) = foldE l t := by
  by_cases hs : (sortE l t).2 = 0
  · have h2 := foldE_sort (l := l) h
    have hty : (tyT l t).2 = 0 := by rw [← sort_ty hs]; exact hs
    have e : foldE l t = foldT l t := by unfold foldE; rw [if_pos hs]
    rw [e] at h2 ⊢
    unfold foldE
    rw [h2, if_pos hs, fold_again l t (may_sound h) hty]
  · have e : foldE l t = t := by unfold foldE; rw [if_neg hs]
    rw [e, e]
theorem foldE_nodes {l : List Dom.V} {t : T} (h : mayE t = 0) : nodesE (foldE l t) ≤ nodesE t := by
  have hm := foldE_may (l := l) h
  rw [nodes_fit ((may_iff _).1 h).1, nodes_fit ((may_iff _).1 hm).1]
  unfold foldE
  split
  · exact fold_fz l t
  · exact Int.le_refl _
end Go.Proofs.Ytkjclofkfmkbdaa
namespace Go.Proofs.Ytkjclofkfmkbdaa
open Go.RowKit Ex
set_option linter.unusedSimpArgs false
set_option linter.unusedVariables false

theorem at_some {l : List Dom.V} {v : Nat} (h : v < l.length) : ∃ u, l[v]? = some u := ⟨_, List.getElem?_eq_getElem h⟩
theorem fine_gen (l : List Dom.V) (va vb : List Int) (hva : ∀ n u, l[n]? = some u → Fine u.srt (some (va.getD n 0))) (hvb : ∀ n u, l[n]? = some u → Fine u.srt (some (vb.getD n 0))) : ∀ t, sound t = true → (tyT l t).2 = 0 → Fine (tyT l t).1 (vT va vb t) := T.ind (fun op n ks ih hs hty => by
  have hk := (ty_kids hty).1
  have hsk := sound_kids hs
  simp only [T.kids] at hsk
  have Hk : ∀ u ∈ ks, (tyT l u).2 = 0 ∧ Fine (tyT l u).1 (vT va vb u) := fun u hu => ⟨tyK_mem hk u hu, ih u hu (soundK_mem hsk hu) (tyK_mem hk u hu)⟩
  rcases shape hs with ⟨rfl, h1, h2, rfl⟩ | ⟨rfl, h1, rfl⟩ | ⟨h34, h0, _, rfl⟩ | ⟨rfl, rfl, a, rfl⟩ | ⟨h6, h14, rfl, a, b, rfl⟩ | ⟨rfl, rfl, a, b, c, rfl⟩
  · rw [tyT, tyK, vT, vK]
    refine ⟨by simp [tyN], fun x hx => ?_⟩
    simp [vN] at hx
    subst hx
    simp [tyN]
    omega
  · rw [tyT, tyK, vT, vK]
    refine ⟨by simp [tyN], fun x hx => ?_⟩
    simp [vN] at hx
    subst hx
    simp [tyN]
    omega
  · have e := (ty_kids hty).2
    rw [e] at hty ⊢
    rw [vT, vK]
    rw [tyK] at hty ⊢
    unfold tyN at hty ⊢
    unfold vN
    rw [if_neg (by omega), if_neg (by omega), if_pos h34] at hty ⊢
    by_cases hl : (l.length : Int) ≤ n
    · rw [if_pos hl] at hty; simp at hty
    · rw [if_neg hl]
      obtain ⟨u, hu⟩ := at_some (l := l) (v := n.toNat) (by omega)
      rcases h34 with rfl | rfl
      · simp only [hu]
        exact hva _ u hu
      · simp only [hu]
        exact hvb _ u hu
  · obtain ⟨ha, hfa⟩ := Hk a (by simp)
    have e := (ty_kids hty).2
    rw [e] at hty ⊢
    rw [vT, vK, vK]
    rw [tyK, tyK, if_pos ha] at hty ⊢
    generalize tyT l a = ta at *
    obtain ⟨sa, ea⟩ := ta
    generalize vT va vb a = xa at *
    unfold tyN at hty ⊢
    unfold vN
    simp at hty ⊢
    split at hty
    · rename_i h
      rw [if_pos h]
      subst h
      refine ⟨by simp, fun x hx => ⟨fun _ => ?_, fun h => by simp at h⟩⟩
      cases xa with
      | none => simp at hx
      | some p =>
        have h2 := (hfa.2 p rfl).1 rfl
        simp at hx
        omega
    · simp at hty
  · obtain ⟨ha, hfa⟩ := Hk a (by simp)
    obtain ⟨hb, hfb⟩ := Hk b (by simp)
    exact fine_two h6 h14 ha hb hfa hfb hty
  · obtain ⟨ha, hfa⟩ := Hk a (by simp)
    obtain ⟨hb, hfb⟩ := Hk b (by simp)
    obtain ⟨hc, hfc⟩ := Hk c (by simp)
    have e := (ty_kids hty).2
    rw [e] at hty ⊢
    rw [vT, vK, vK, vK, vK]
    rw [tyK, tyK, tyK, tyK, if_pos ha, if_pos hb, if_pos hc] at hty ⊢
    generalize tyT l a = ta at *
    generalize tyT l b = tb at *
    generalize tyT l c = tc at *
    obtain ⟨sa, ea⟩ := ta
    obtain ⟨sb, eb⟩ := tb
    obtain ⟨sc, ec⟩ := tc
    generalize vT va vb a = xa at *
    generalize vT va vb b = xb at *
    generalize vT va vb c = xc at *
    unfold tyN at hty ⊢
    unfold vN
    simp at hty ⊢
    split at hty
    · rename_i h
      rw [if_pos h]
      obtain ⟨rfl, rfl⟩ := h
      refine ⟨hfb.1, fun x hx => ?_⟩
      cases xa with
      | none => simp at hx
      | some p =>
        simp only at hx
        split at hx
        · exact hfc.2 x (by simpa using hx)
        · cases xb with
          | none => simp at hx
          | some q =>
            have h1 := vIn_some hx
            simp [vOp] at h1
            obtain ⟨rfl, _⟩ := h1
            exact hfb.2 q rfl
    · simp at hty)
theorem one_fine {v : Dom.V} (h : v.may = 0) (s : Int) : Fine v.srt (some (v.lo + s % v.size)) := by
  have hb := val_one h s
  unfold Dom.V.may Dom.mayOfV at h
  unfold Dom.V.size Dom.sizeOfV at hb ⊢
  by_cases h1 : v.srt = 1
  · rw [if_pos h1] at h hb ⊢
    refine ⟨.inl h1, fun x hx => ⟨fun _ => ?_, fun h2 => by omega⟩⟩
    injection hx with hx
    split at h
    · omega
    · omega
  · rw [if_neg h1] at h
    by_cases h2 : v.srt = 2
    · refine ⟨.inr h2, fun x hx => ⟨fun h => absurd h h1, fun _ => ?_⟩⟩
      injection hx with hx
      rw [← hx]; exact hb
    · rw [if_neg h2] at h; omega
theorem vals_fine : ∀ (l : List Dom.V) (s : Int), (∀ v ∈ l, v.may = 0) → ∀ n u, l[n]? = some u → Fine u.srt (some ((Dom.valsL l s).getD n 0))
  | [], s, h, n, u, hu => by simp at hu
  | v :: r, s, h, 0, u, hu => by
    simp at hu; subst hu
    rw [Dom.valsL]
    exact one_fine (h v (by simp)) s
  | v :: r, s, h, n + 1, u, hu => by
    rw [Dom.valsL]
    exact vals_fine r (s / v.size) (fun v hv => h v (by simp [hv])) n u (by simpa using hu)
end Go.Proofs.Ytkjclofkfmkbdaa
namespace Go.Proofs.Ytkjclofkfmkbdaa
open Go.RowKit Ex
set_option linter.unusedSimpArgs false
set_option linter.unusedVariables false

theorem truth_any (p : Bool) (w : World) : Calls Try.prog 71 #[.bool p] w fun e w' => e = .returned (.int .i64 (bitI p)) ∧ w = w' := by
  cases p
  all_goals
    go_enter Try.func71, Try.ntmps71
    go_wp2_with fail
    go_ret
    exact ⟨rfl, rfl⟩
theorem within_any (z : Int) (w : World) : Calls Try.prog 72 #[.int .i64 z] w fun e w' => e = .returned (.tuple #[.int .i64 (valP (vIn z)).1, .int .i64 (valP (vIn z)).2]) ∧ w = w' := by
  by_cases h1 : z < -1000
  · have h1b : decide (z < -1000) = true := by simp; omega
    have Hf : Hid (valP (vIn z) = (0, 6)) := hide (by unfold vIn; rw [if_neg (by omega)]; rfl)
    go_enter Try.func72, Try.ntmps72
    go_wp2_with fail
    go_ret2
    exact ⟨ret_pair Hf.out, rfl⟩
  · have h1b : decide (z < -1000) = false := by simp; omega
    by_cases h2 : 1000 < z
    · have h2b : decide (1000 < z) = true := by simp; omega
      have Hf : Hid (valP (vIn z) = (0, 6)) := hide (by unfold vIn; rw [if_neg (by omega)]; rfl)
      go_enter Try.func72, Try.ntmps72
      go_wp2_with fail
      go_ret2
      exact ⟨ret_pair Hf.out, rfl⟩
    · have h2b : decide (1000 < z) = false := by simp; omega
      have Hf : Hid (valP (vIn z) = (z, 0)) := hide (by unfold vIn; rw [if_pos (by omega)]; rfl)
      go_enter Try.func72, Try.ntmps72
      go_wp2_with fail
      go_ret2
      exact ⟨ret_pair Hf.out, rfl⟩
def decO (op x : Int) : Option Int := if op = 5 then some (1 - x) else if op = 6 ∧ x = 0 then some 0 else if (op = 7 ∧ x = 1) ∨ (op = 8 ∧ x = 0) then some 1 else none
def decV (v : Option Int) : Value := match v with
  | some r => .tuple #[.int .i64 r, .bool true]
  | none => .tuple #[.int .i64 0, .bool false]
set_option maxHeartbeats 1000000 in
theorem decided_any (op x : Int) (w : World) (h1 : -1000 ≤ x) (h2 : x ≤ 1001) : Calls Try.prog 56 #[.int .i64 op, .int .i64 x] w fun e w' => e = .returned (decV (decO op x)) ∧ w = w' := by
  by_cases q5 : op = 5
  · have Hf : Hid (decO op x = some (1 - x)) := hide (by simp [decO, q5])
    subst q5
    go_enter Try.func56, Try.ntmps56
    go_wp2_with fail
    go_ret2
    exact ⟨by rw [Hf.out]; rfl, rfl⟩
  · by_cases q6 : op = 6
    · subst q6
      by_cases hx : x = 0
      · have hxb : (x == 0) = true := by simp [hx]
        have Hf : Hid (decO 6 x = some 0) := hide (by simp [decO, hx])
        clear hx
        go_enter Try.func56, Try.ntmps56
        go_wp2_with fail
        go_ret2
        exact ⟨by rw [Hf.out]; rfl, rfl⟩
      · have hxb : (x == 0) = false := by simp [hx]
        have Hf : Hid (decO 6 x = none) := hide (by simp [decO, hx])
        clear hx
        go_enter Try.func56, Try.ntmps56
        go_wp2_with fail
        go_ret2
        exact ⟨by rw [Hf.out]; rfl, rfl⟩
    · by_cases q7 : op = 7
      · subst q7
        by_cases hx : x = 1
        · have hxb : (x == 1) = true := by simp [hx]
          have Hf : Hid (decO 7 x = some 1) := hide (by simp [decO, hx])
          clear hx
          go_enter Try.func56, Try.ntmps56
          go_wp2_with fail
          go_ret2
          exact ⟨by rw [Hf.out]; rfl, rfl⟩
        · have hxb : (x == 1) = false := by simp [hx]
          have Hf : Hid (decO 7 x = none) := hide (by simp [decO, hx])
          clear hx
          go_enter Try.func56, Try.ntmps56
          go_wp2_with fail
          go_ret2
          exact ⟨by rw [Hf.out]; rfl, rfl⟩
      · by_cases q8 : op = 8
        · subst q8
          by_cases hx : x = 0
          · have hxb : (x == 0) = true := by simp [hx]
            have Hf : Hid (decO 8 x = some 1) := hide (by simp [decO, hx])
            clear hx
            go_enter Try.func56, Try.ntmps56
            go_wp2_with fail
            go_ret2
            exact ⟨by rw [Hf.out]; rfl, rfl⟩
          · have hxb : (x == 0) = false := by simp [hx]
            have Hf : Hid (decO 8 x = none) := hide (by simp [decO, hx])
            clear hx
            go_enter Try.func56, Try.ntmps56
            go_wp2_with fail
            go_ret2
            exact ⟨by rw [Hf.out]; rfl, rfl⟩
        · have Hf : Hid (decO op x = none) := hide (by simp [decO, q5, q6, q7, q8])
          have b5 : (op == 5) = false := by simp [q5]
          have b6 : (op == 6) = false := by simp [q6]
          have b7 : (op == 7) = false := by simp [q7]
          have b8 : (op == 8) = false := by simp [q8]
          clear q5 q6 q7 q8
          go_enter Try.func56, Try.ntmps56
          go_wp2_with fail
          go_ret2
          exact ⟨by rw [Hf.out]; rfl, rfl⟩
def joinP (op x y : Int) : Int × Int := if op = 9 then (bitI (x == y), 0) else if op = 10 then (bitI (decide (x < y)), 0) else if op = 11 then (bitI (decide (x ≤ y)), 0) else if op = 12 then valP (vIn (x + y)) else if op = 13 then valP (vIn (x - y)) else if op = 14 then valP (vIn (x * y)) else (y, 0)
theorem joinP_eq {op x y : Int} (h1 : -1000 ≤ y) (h2 : y ≤ 1000) : joinP op x y = valP (vIn (vOp op x y)) := by
  have hb : ∀ p, valP (vIn (bitI p)) = (bitI p, 0) := fun p => by cases p <;> rfl
  unfold joinP vOp
  repeat' split
  all_goals first | rfl | (rw [hb]) | (unfold vIn; rw [if_pos ⟨h1, h2⟩]; rfl)
set_option maxHeartbeats 1000000 in
theorem djoin_any (op x y : Int) (w : World) (x1 : -1000 ≤ x) (x2 : x ≤ 1001) (y1 : -1000 ≤ y) (y2 : y ≤ 1001) : Calls Try.prog 57 #[.int .i64 op, .int .i64 x, .int .i64 y] w fun e w' => e = .returned (.tuple #[.int .i64 (joinP op x y).1, .int .i64 (joinP op x y).2]) ∧ w = w' := by
  obtain ⟨m1, m2⟩ := mul_bd x1 x2 y1 y2
  by_cases q9 : op = 9
  · subst q9
    go_enter Try.func57, Try.ntmps57
    go_wp2_with (go_at_call 71; refine (truth_any _ w).mono ?_; rintro e w1 ⟨rfl, rfl⟩)
    go_ret2
    exact ⟨rfl, rfl⟩
  · by_cases q10 : op = 10
    · subst q10
      go_enter Try.func57, Try.ntmps57
      go_wp2_with (go_at_call 71; refine (truth_any _ w).mono ?_; rintro e w1 ⟨rfl, rfl⟩)
      go_ret2
      exact ⟨rfl, rfl⟩
    · by_cases q11 : op = 11
      · subst q11
        go_enter Try.func57, Try.ntmps57
        go_wp2_with (go_at_call 71; refine (truth_any _ w).mono ?_; rintro e w1 ⟨rfl, rfl⟩)
        go_ret2
        exact ⟨rfl, rfl⟩
      · by_cases q12 : op = 12
        · subst q12
          go_enter Try.func57, Try.ntmps57
          go_wp2_with (go_at_call 72; refine (within_any _ w).mono ?_; rintro e w1 ⟨rfl, rfl⟩)
          go_ret2
          exact ⟨rfl, rfl⟩
        · by_cases q13 : op = 13
          · subst q13
            go_enter Try.func57, Try.ntmps57
            go_wp2_with (go_at_call 72; refine (within_any _ w).mono ?_; rintro e w1 ⟨rfl, rfl⟩)
            go_ret2
            exact ⟨rfl, rfl⟩
          · by_cases q14 : op = 14
            · subst q14
              go_enter Try.func57, Try.ntmps57
              go_wp2_with (go_at_call 72; refine (within_any _ w).mono ?_; rintro e w1 ⟨rfl, rfl⟩)
              go_ret2
              exact ⟨rfl, rfl⟩
            · have Hf : Hid (joinP op x y = (y, 0)) := hide (by simp [joinP, q9, q10, q11, q12, q13, q14])
              have b9 : (op == 9) = false := by simp [q9]
              have b10 : (op == 10) = false := by simp [q10]
              have b11 : (op == 11) = false := by simp [q11]
              have b12 : (op == 12) = false := by simp [q12]
              have b13 : (op == 13) = false := by simp [q13]
              have b14 : (op == 14) = false := by simp [q14]
              clear q9 q10 q11 q12 q13 q14
              go_enter Try.func57, Try.ntmps57
              go_wp2_with fail
              go_ret2
              exact ⟨ret_pair Hf.out, rfl⟩
end Go.Proofs.Ytkjclofkfmkbdaa
