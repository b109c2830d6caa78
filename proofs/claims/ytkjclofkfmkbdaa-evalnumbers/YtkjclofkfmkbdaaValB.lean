/- The walk of the reference's value. -/
import Derived.Test.YtkjclofkfmkbdaaVal
namespace Go.Proofs.Ytkjclofkfmkbdaa
open Go.RowKit Ex
set_option linter.unusedSimpArgs false
set_option linter.unusedVariables false

theorem sound_len15' {t : T} (h : sound t = true) : (t.kids.length : Int) = kidsOf t.op := by
  rw [sound_eq, nodeB_eq, Bool.and_eq_true, Bool.and_eq_true] at h
  simpa using h.1.1
theorem mul_bd {x y : Int} (x1 : -1000 ≤ x) (x2 : x ≤ 1001) (y1 : -1000 ≤ y) (y2 : y ≤ 1001) : -1002001 ≤ x * y ∧ x * y ≤ 1002001 := by
  have h1 : 0 ≤ (1001 - x) * (1001 + y) := Int.mul_nonneg (by omega) (by omega)
  have h2 : 0 ≤ (1001 + x) * (1001 - y) := Int.mul_nonneg (by omega) (by omega)
  have h3 : 0 ≤ (1001 - x) * (1001 - y) := Int.mul_nonneg (by omega) (by omega)
  have h4 : 0 ≤ (1001 + x) * (1001 + y) := Int.mul_nonneg (by omega) (by omega)
  simp only [Int.sub_mul, Int.add_mul, Int.mul_sub, Int.mul_add] at h1 h2 h3 h4
  generalize x * y = z at *
  omega

set_option maxRecDepth 100000 in
set_option maxHeartbeats 40000000 in
theorem rvalue_any (B : Nat) (Aa : Option Addr) (na ca : Nat) (la : List Int) (Ab : Option Addr) (nb cb : Nat) (lb : List Int) (hna : na ≤ 1000) (hnb : nb ≤ 1000) (ha : Small la) (hb0 : Small lb) : ∀ (d : Nat) (op n : Int) (A : Option Addr) (len cap : Nat) (t : T) (w : World), B ≤ w.heap.size → RE w B d op n A len cap t → sound t = true → RI w B Aa na la → RI w B Ab nb lb → (∀ i, rdT t 3 i = true → i < na) → (∀ i, rdT t 4 i = true → i < nb) →
    Calls Try.prog 35 #[.agg #[.int .i64 op, .int .i64 n, .slice A len cap], .slice Aa na ca, .slice Ab nb cb] w (ValPost (vT la lb t) w) := by
  have Ha := hide ha
  have Hb0 := hide hb0
  clear ha hb0
  intro d
  induction d with
  | zero => intro op n A len cap t w hB h; exact absurd h id
  | succ d ih =>
    intro op n A len cap t w hB hre hsd hria hrib h3 h4
    have IH := hide ih; clear ih
    obtain ⟨ho1, ho2, hl3⟩ := sound_op hsd
    have hle := sound_len15' hsd
    have hnb2 := sound_small hsd
    have Hv : Hid (vT la lb t = vN la lb op n (vK la lb t.kids)) := hide (by
      have e := hre.eq_mk
      rw [vT_eq, show t.op = op by rw [e]; rfl, show t.n = n by rw [e]; rfl])
    obtain ⟨hx1, hx2, hlen, hcap, hmx, _⟩ := id hre
    rw [hx1] at ho1 ho2 hle
    rw [hx2] at hnb2
    rw [hlen] at hl3 hle
    unfold maxLen at hmx
    have Hn : Hid ((op = 3 ∨ op = 4) → 0 ≤ n ∧ n < 6) := hide (fun ho => by
      have h := sound_n (op := op) hsd ho hx1
      rw [hx2] at h; exact h)
    have H3 : Hid (∀ i : Nat, op = 3 → n = (i : Int) → i < na) := hide (fun i ho hi => h3 i (by rw [rdT_eq, hx1, hx2, ho, hi]; simp))
    have H4 : Hid (∀ i : Nat, op = 4 → n = (i : Int) → i < nb) := hide (fun i ho hi => h4 i (by rw [rdT_eq, hx1, hx2, ho, hi]; simp))
    have Hk3 : Hid (∀ (k : Nat) (u : T), t.kids[k]? = some u → (∀ i, rdT u 3 i = true → i < na) ∧ (∀ i, rdT u 4 i = true → i < nb)) := hide (fun k u hu =>
      ⟨fun i hi => h3 i (by rw [rdT_eq, rdK_at t.kids k u 3 i hu hi]; simp), fun i hi => h4 i (by rw [rdT_eq, rdK_at t.kids k u 4 i hu hi]; simp)⟩)
    have hbx : Below w.heap.size w (w.alloc (.cells #[.int .i64 op, .int .i64 n, .slice A len cap] 25)) := (Below.refl _ _).alloc (Nat.le_refl _) _
    have Hre := hide (hre.below (hbx.mono hB))
    have Hria := hide (hria.below (hbx.mono hB))
    have Hrib := hide (hrib.below (hbx.mono hB))
    have Hbox := hide (box_new w op n A len cap 25)
    have hz0 : w.heap.size + 1 ≤ (w.alloc (.cells #[.int .i64 op, .int .i64 n, .slice A len cap] 25)).heap.size := by simp
    have Hbx := hide hbx
    have Hsd := hide hsd
    clear hre hsd hria hrib h3 h4 hx1 hx2 hbx hlen
    have Hkid : Hid (∀ (k : Nat) (w' : World), k < len → Below (w.alloc (.cells #[.int .i64 op, .int .i64 n, .slice A len cap] 25)).heap.size (w.alloc (.cells #[.int .i64 op, .int .i64 n, .slice A len cap] 25)) w' → ∃ b off u op2 n2 A2 l2 c2, A = some ⟨b, off, none⟩ ∧ CellE w' b (off + k * 3) op2 n2 A2 l2 c2 ∧ (vK la lb t.kids).getD k none = vT la lb u ∧ sound u = true ∧ Calls Try.prog 35 #[.agg #[.int .i64 op2, .int .i64 n2, .slice A2 l2 c2], .slice Aa na ca, .slice Ab nb cb] w' (ValPost (vT la lb u) w')) := hide (fun k w' hk hb => by
      obtain ⟨b, off, u, op2, n2, A2, l2, c2, e, _, hku, hce, hre2⟩ := (Hre.out.below (hb.mono (by omega))).at_ hk
      obtain ⟨q3, q4⟩ := Hk3.out k u hku
      have hsu := soundK_at _ k u (sound_kids Hsd.out) hku
      exact ⟨b, off, u, op2, n2, A2, l2, c2, e, hce, vK_at la lb t.kids k u hku, hsu, IH.out op2 n2 A2 l2 c2 u w' (by have := hb.size; omega) hre2 hsu (Hria.out.below (hb.mono (by omega))) (Hrib.out.below (hb.mono (by omega))) q3 q4⟩)
    clear IH Hk3 Hsd
    obtain ⟨f0, f1, f2⟩ := Hbox.out
    have hop : op = 1 ∨ op = 2 ∨ op = 3 ∨ op = 4 ∨ op = 5 ∨ op = 6 ∨ op = 7 ∨ op = 8 ∨ op = 9 ∨ op = 10 ∨ op = 11 ∨ op = 12 ∨ op = 13 ∨ op = 14 ∨ op = 15 := by omega
    clear ho1 ho2
    rcases hop with rfl | rfl | rfl | rfl | rfl | rfl | rfl | rfl | rfl | rfl | rfl | rfl | rfl | rfl | rfl
    · have Hf : Hid (vT la lb t = some n) := hide (Hv.out.trans (by simp [vN]))
      go_enter Try.func35, Try.ntmps35
      go_wp2_with fail
      go_ret2
      exact ⟨n, true, rfl, Hf.out, Hbx.out⟩
    · have Hf : Hid (vT la lb t = some n) := hide (Hv.out.trans (by simp [vN]))
      go_enter Try.func35, Try.ntmps35
      go_wp2_with fail
      go_ret2
      exact ⟨n, true, rfl, Hf.out, Hbx.out⟩
    · obtain ⟨n0, n6⟩ := Hn.out (by omega)
      obtain ⟨q, rfl⟩ := Int.eq_ofNat_of_zero_le n0
      have hq := H3.out q rfl rfl
      have hq' : (q : Int) < (na : Int) := by omega
      obtain ⟨bb, bo, x, rfl, hbb, hx, cx⟩ := Hria.out.at_ hq
      have Hf : Hid (vT la lb t = some x) := hide (Hv.out.trans (by simp [vN, List.getD, hx]))
      clear hx
      go_enter Try.func35, Try.ntmps35
      go_wp2_with fail
      go_ret2
      exact ⟨x, true, rfl, Hf.out, Hbx.out⟩
    · obtain ⟨n0, n6⟩ := Hn.out (by omega)
      obtain ⟨q, rfl⟩ := Int.eq_ofNat_of_zero_le n0
      have hq := H4.out q rfl rfl
      have hq' : (q : Int) < (nb : Int) := by omega
      obtain ⟨bb, bo, x, rfl, hbb, hx, cx⟩ := Hrib.out.at_ hq
      have Hf : Hid (vT la lb t = some x) := hide (Hv.out.trans (by simp [vN, List.getD, hx]))
      clear hx
      go_enter Try.func35, Try.ntmps35
      go_wp2_with fail
      go_ret2
      exact ⟨x, true, rfl, Hf.out, Hbx.out⟩
    · have h9 : kidsOf 5 = 1 := by decide
      have hlN : len = 1 := by omega
      subst hlN
      clear h9
      obtain ⟨b, off, u, op2, n2, A2, l2, c2, rfl, hce, hvk, hsu, hcall⟩ := Hkid.out 0 _ (by omega) (Below.refl _ _)
      obtain ⟨c0, c1, cs⟩ := hce
      rw [Nat.zero_mul, Nat.add_zero] at c0 c1 cs
      have Hbd := hide (fun x => vT_bd Ha.out Hb0.out u x hsu)
      have Hcall := hide hcall
      have Hvk := hide hvk
      clear hsu hcall hvk
      go_enter Try.func35, Try.ntmps35
      go_wp2_with fail
      clear c0 c1 cs f0 f1 f2
      refine Hcall.out.mono ?_
      rintro e w1 ⟨x, ok, rfl, hvu, hb1⟩
      have hz1 := hb1.size
      have Hb1 := hide hb1
      obtain ⟨f0, f1, f2⟩ := Hbox.out.below hb1 (by omega)
      clear hb1
      cases ok
      · have Hf : Hid (vT la lb t = none) := hide (by
          rw [Hv.out]; unfold vN
          rw [Hvk.out, hvu]; rfl)
        clear hvu
        go_wp2_with fail
        go_ret2
        exact ⟨0, false, rfl, Hf.out, Hbx.out.trans (Hb1.out.mono (by omega))⟩
      · obtain ⟨x1, x2⟩ := Hbd.out x hvu
        have Hvx : Hid ((vK la lb t.kids).getD 0 none = some x) := hide (by rw [Hvk.out, hvu]; rfl)
        clear hvu Hvk Hbd Hcall
        have Hf : Hid (vT la lb t = some (1 - x)) := hide (by
          rw [Hv.out]; unfold vN
          rw [Hvx.out]; simp)
        go_wp2_with fail
        go_ret2
        exact ⟨_, true, rfl, Hf.out, Hbx.out.trans (Hb1.out.mono (by omega))⟩
    · have h9 : kidsOf 6 = 2 := by decide
      have hlN : len = 2 := by omega
      subst hlN
      clear h9
      obtain ⟨b, off, u, op2, n2, A2, l2, c2, rfl, hce, hvk, hsu, hcall⟩ := Hkid.out 0 _ (by omega) (Below.refl _ _)
      obtain ⟨c0, c1, cs⟩ := hce
      rw [Nat.zero_mul, Nat.add_zero] at c0 c1 cs
      have Hbd := hide (fun x => vT_bd Ha.out Hb0.out u x hsu)
      have Hcall := hide hcall
      have Hvk := hide hvk
      clear hsu hcall hvk
      go_enter Try.func35, Try.ntmps35
      go_wp2_with fail
      clear c0 c1 cs f0 f1 f2
      refine Hcall.out.mono ?_
      rintro e w1 ⟨x, ok, rfl, hvu, hb1⟩
      have hz1 := hb1.size
      have Hb1 := hide hb1
      obtain ⟨f0, f1, f2⟩ := Hbox.out.below hb1 (by omega)
      clear hb1
      cases ok
      · have Hf : Hid (vT la lb t = none) := hide (by
          rw [Hv.out]; unfold vN
          rw [Hvk.out, hvu]; rfl)
        clear hvu
        go_wp2_with fail
        go_ret2
        exact ⟨0, false, rfl, Hf.out, Hbx.out.trans (Hb1.out.mono (by omega))⟩
      · obtain ⟨x1, x2⟩ := Hbd.out x hvu
        have Hvx : Hid ((vK la lb t.kids).getD 0 none = some x) := hide (by rw [Hvk.out, hvu]; rfl)
        clear hvu Hvk Hbd Hcall
        by_cases hx0 : x = 0
        · have hxb : (x == 0) = true := by simp [hx0]
          have Hf : Hid (vT la lb t = some 0) := hide (by
            rw [Hv.out]; unfold vN
            rw [Hvx.out]; simp [hx0])
          clear hx0
          go_wp2_with fail
          go_ret2
          exact ⟨_, true, rfl, Hf.out, Hbx.out.trans (Hb1.out.mono (by omega))⟩
        · have hxb : (x == 0) = false := by simp [hx0]
          obtain ⟨b', off', u1, op3, n3, A3, l3, c3, e', hce, hvk, hsu, hcall⟩ := Hkid.out 1 w1 (by omega) Hb1.out
          injection e' with e'
          injection e' with e1 e2
          subst e1; subst e2
          obtain ⟨c0, c1, cs⟩ := hce
          rw [Nat.one_mul] at c0 c1 cs
          have Hbd := hide (fun x => vT_bd Ha.out Hb0.out u1 x hsu)
          have Hcall := hide hcall
          have Hvk := hide hvk
          clear hsu hcall hvk
          go_wp2_with fail
          clear c0 c1 cs f0 f1 f2
          refine Hcall.out.mono ?_
          rintro e w2 ⟨y, ok, rfl, hvu, hb2⟩
          have hz2 := hb2.size
          have Hb2 := hide (Hb1.out.trans (hb2.mono (by omega)))
          obtain ⟨f0, f1, f2⟩ := Hbox.out.below Hb2.out (by omega)
          clear hb2
          cases ok
          · have Hf : Hid (vT la lb t = none) := hide (by
              rw [Hv.out]; unfold vN
              rw [Hvx.out, Hvk.out, hvu]; simp [hx0])
            clear hvu
            go_wp2_with fail
            go_ret2
            exact ⟨0, false, rfl, Hf.out, Hbx.out.trans (Hb2.out.mono (by omega))⟩
          · obtain ⟨y1, y2⟩ := Hbd.out y hvu
            have Hf0 : Hid (vT la lb t = vIn (vOp 6 x y)) := hide (by
              rw [Hv.out]; unfold vN
              rw [Hvx.out, Hvk.out, hvu]; simp [hx0])
            clear hvu Hvk Hbd Hcall
            have Hop : Hid (vOp 6 x y = y) := hide (by simp [vOp])
            by_cases z1 : -1000 ≤ y
            · have z1b : decide (-1000 ≤ y) = true := by simp; omega
              by_cases z2 : y ≤ 1000
              · have z2b : decide (y ≤ 1000) = true := by simp; omega
                have Hin : Hid (vT la lb t = some (y)) := hide (by rw [Hf0.out, Hop.out]; unfold vIn; rw [if_pos ⟨z1, z2⟩])
                go_wp2_with fail
                go_ret2
                exact ⟨_, true, rfl, Hin.out, Hbx.out.trans (Hb2.out.mono (by omega))⟩
              · have z2b : decide (y ≤ 1000) = false := by simp; omega
                have Hin : Hid (vT la lb t = none) := hide (by rw [Hf0.out, Hop.out]; unfold vIn; rw [if_neg (fun h => z2 h.2)])
                go_wp2_with fail
                go_ret2
                exact ⟨_, false, rfl, Hin.out, Hbx.out.trans (Hb2.out.mono (by omega))⟩
            · exact absurd y1 z1
    · have h9 : kidsOf 7 = 2 := by decide
      have hlN : len = 2 := by omega
      subst hlN
      clear h9
      obtain ⟨b, off, u, op2, n2, A2, l2, c2, rfl, hce, hvk, hsu, hcall⟩ := Hkid.out 0 _ (by omega) (Below.refl _ _)
      obtain ⟨c0, c1, cs⟩ := hce
      rw [Nat.zero_mul, Nat.add_zero] at c0 c1 cs
      have Hbd := hide (fun x => vT_bd Ha.out Hb0.out u x hsu)
      have Hcall := hide hcall
      have Hvk := hide hvk
      clear hsu hcall hvk
      go_enter Try.func35, Try.ntmps35
      go_wp2_with fail
      clear c0 c1 cs f0 f1 f2
      refine Hcall.out.mono ?_
      rintro e w1 ⟨x, ok, rfl, hvu, hb1⟩
      have hz1 := hb1.size
      have Hb1 := hide hb1
      obtain ⟨f0, f1, f2⟩ := Hbox.out.below hb1 (by omega)
      clear hb1
      cases ok
      · have Hf : Hid (vT la lb t = none) := hide (by
          rw [Hv.out]; unfold vN
          rw [Hvk.out, hvu]; rfl)
        clear hvu
        go_wp2_with fail
        go_ret2
        exact ⟨0, false, rfl, Hf.out, Hbx.out.trans (Hb1.out.mono (by omega))⟩
      · obtain ⟨x1, x2⟩ := Hbd.out x hvu
        have Hvx : Hid ((vK la lb t.kids).getD 0 none = some x) := hide (by rw [Hvk.out, hvu]; rfl)
        clear hvu Hvk Hbd Hcall
        by_cases hx0 : x = 1
        · have hxb : (x == 1) = true := by simp [hx0]
          have Hf : Hid (vT la lb t = some 1) := hide (by
            rw [Hv.out]; unfold vN
            rw [Hvx.out]; simp [hx0])
          clear hx0
          go_wp2_with fail
          go_ret2
          exact ⟨_, true, rfl, Hf.out, Hbx.out.trans (Hb1.out.mono (by omega))⟩
        · have hxb : (x == 1) = false := by simp [hx0]
          obtain ⟨b', off', u1, op3, n3, A3, l3, c3, e', hce, hvk, hsu, hcall⟩ := Hkid.out 1 w1 (by omega) Hb1.out
          injection e' with e'
          injection e' with e1 e2
          subst e1; subst e2
          obtain ⟨c0, c1, cs⟩ := hce
          rw [Nat.one_mul] at c0 c1 cs
          have Hbd := hide (fun x => vT_bd Ha.out Hb0.out u1 x hsu)
          have Hcall := hide hcall
          have Hvk := hide hvk
          clear hsu hcall hvk
          go_wp2_with fail
          clear c0 c1 cs f0 f1 f2
          refine Hcall.out.mono ?_
          rintro e w2 ⟨y, ok, rfl, hvu, hb2⟩
          have hz2 := hb2.size
          have Hb2 := hide (Hb1.out.trans (hb2.mono (by omega)))
          obtain ⟨f0, f1, f2⟩ := Hbox.out.below Hb2.out (by omega)
          clear hb2
          cases ok
          · have Hf : Hid (vT la lb t = none) := hide (by
              rw [Hv.out]; unfold vN
              rw [Hvx.out, Hvk.out, hvu]; simp [hx0])
            clear hvu
            go_wp2_with fail
            go_ret2
            exact ⟨0, false, rfl, Hf.out, Hbx.out.trans (Hb2.out.mono (by omega))⟩
          · obtain ⟨y1, y2⟩ := Hbd.out y hvu
            have Hf0 : Hid (vT la lb t = vIn (vOp 7 x y)) := hide (by
              rw [Hv.out]; unfold vN
              rw [Hvx.out, Hvk.out, hvu]; simp [hx0])
            clear hvu Hvk Hbd Hcall
            have Hop : Hid (vOp 7 x y = y) := hide (by simp [vOp])
            by_cases z1 : -1000 ≤ y
            · have z1b : decide (-1000 ≤ y) = true := by simp; omega
              by_cases z2 : y ≤ 1000
              · have z2b : decide (y ≤ 1000) = true := by simp; omega
                have Hin : Hid (vT la lb t = some (y)) := hide (by rw [Hf0.out, Hop.out]; unfold vIn; rw [if_pos ⟨z1, z2⟩])
                go_wp2_with fail
                go_ret2
                exact ⟨_, true, rfl, Hin.out, Hbx.out.trans (Hb2.out.mono (by omega))⟩
              · have z2b : decide (y ≤ 1000) = false := by simp; omega
                have Hin : Hid (vT la lb t = none) := hide (by rw [Hf0.out, Hop.out]; unfold vIn; rw [if_neg (fun h => z2 h.2)])
                go_wp2_with fail
                go_ret2
                exact ⟨_, false, rfl, Hin.out, Hbx.out.trans (Hb2.out.mono (by omega))⟩
            · exact absurd y1 z1
    · have h9 : kidsOf 8 = 2 := by decide
      have hlN : len = 2 := by omega
      subst hlN
      clear h9
      obtain ⟨b, off, u, op2, n2, A2, l2, c2, rfl, hce, hvk, hsu, hcall⟩ := Hkid.out 0 _ (by omega) (Below.refl _ _)
      obtain ⟨c0, c1, cs⟩ := hce
      rw [Nat.zero_mul, Nat.add_zero] at c0 c1 cs
      have Hbd := hide (fun x => vT_bd Ha.out Hb0.out u x hsu)
      have Hcall := hide hcall
      have Hvk := hide hvk
      clear hsu hcall hvk
      go_enter Try.func35, Try.ntmps35
      go_wp2_with fail
      clear c0 c1 cs f0 f1 f2
      refine Hcall.out.mono ?_
      rintro e w1 ⟨x, ok, rfl, hvu, hb1⟩
      have hz1 := hb1.size
      have Hb1 := hide hb1
      obtain ⟨f0, f1, f2⟩ := Hbox.out.below hb1 (by omega)
      clear hb1
      cases ok
      · have Hf : Hid (vT la lb t = none) := hide (by
          rw [Hv.out]; unfold vN
          rw [Hvk.out, hvu]; rfl)
        clear hvu
        go_wp2_with fail
        go_ret2
        exact ⟨0, false, rfl, Hf.out, Hbx.out.trans (Hb1.out.mono (by omega))⟩
      · obtain ⟨x1, x2⟩ := Hbd.out x hvu
        have Hvx : Hid ((vK la lb t.kids).getD 0 none = some x) := hide (by rw [Hvk.out, hvu]; rfl)
        clear hvu Hvk Hbd Hcall
        by_cases hx0 : x = 0
        · have hxb : (x == 0) = true := by simp [hx0]
          have Hf : Hid (vT la lb t = some 1) := hide (by
            rw [Hv.out]; unfold vN
            rw [Hvx.out]; simp [hx0])
          clear hx0
          go_wp2_with fail
          go_ret2
          exact ⟨_, true, rfl, Hf.out, Hbx.out.trans (Hb1.out.mono (by omega))⟩
        · have hxb : (x == 0) = false := by simp [hx0]
          obtain ⟨b', off', u1, op3, n3, A3, l3, c3, e', hce, hvk, hsu, hcall⟩ := Hkid.out 1 w1 (by omega) Hb1.out
          injection e' with e'
          injection e' with e1 e2
          subst e1; subst e2
          obtain ⟨c0, c1, cs⟩ := hce
          rw [Nat.one_mul] at c0 c1 cs
          have Hbd := hide (fun x => vT_bd Ha.out Hb0.out u1 x hsu)
          have Hcall := hide hcall
          have Hvk := hide hvk
          clear hsu hcall hvk
          go_wp2_with fail
          clear c0 c1 cs f0 f1 f2
          refine Hcall.out.mono ?_
          rintro e w2 ⟨y, ok, rfl, hvu, hb2⟩
          have hz2 := hb2.size
          have Hb2 := hide (Hb1.out.trans (hb2.mono (by omega)))
          obtain ⟨f0, f1, f2⟩ := Hbox.out.below Hb2.out (by omega)
          clear hb2
          cases ok
          · have Hf : Hid (vT la lb t = none) := hide (by
              rw [Hv.out]; unfold vN
              rw [Hvx.out, Hvk.out, hvu]; simp [hx0])
            clear hvu
            go_wp2_with fail
            go_ret2
            exact ⟨0, false, rfl, Hf.out, Hbx.out.trans (Hb2.out.mono (by omega))⟩
          · obtain ⟨y1, y2⟩ := Hbd.out y hvu
            have Hf0 : Hid (vT la lb t = vIn (vOp 8 x y)) := hide (by
              rw [Hv.out]; unfold vN
              rw [Hvx.out, Hvk.out, hvu]; simp [hx0])
            clear hvu Hvk Hbd Hcall
            have Hop : Hid (vOp 8 x y = y) := hide (by simp [vOp])
            by_cases z1 : -1000 ≤ y
            · have z1b : decide (-1000 ≤ y) = true := by simp; omega
              by_cases z2 : y ≤ 1000
              · have z2b : decide (y ≤ 1000) = true := by simp; omega
                have Hin : Hid (vT la lb t = some (y)) := hide (by rw [Hf0.out, Hop.out]; unfold vIn; rw [if_pos ⟨z1, z2⟩])
                go_wp2_with fail
                go_ret2
                exact ⟨_, true, rfl, Hin.out, Hbx.out.trans (Hb2.out.mono (by omega))⟩
              · have z2b : decide (y ≤ 1000) = false := by simp; omega
                have Hin : Hid (vT la lb t = none) := hide (by rw [Hf0.out, Hop.out]; unfold vIn; rw [if_neg (fun h => z2 h.2)])
                go_wp2_with fail
                go_ret2
                exact ⟨_, false, rfl, Hin.out, Hbx.out.trans (Hb2.out.mono (by omega))⟩
            · exact absurd y1 z1
    · have h9 : kidsOf 9 = 2 := by decide
      have hlN : len = 2 := by omega
      subst hlN
      clear h9
      obtain ⟨b, off, u, op2, n2, A2, l2, c2, rfl, hce, hvk, hsu, hcall⟩ := Hkid.out 0 _ (by omega) (Below.refl _ _)
      obtain ⟨c0, c1, cs⟩ := hce
      rw [Nat.zero_mul, Nat.add_zero] at c0 c1 cs
      have Hbd := hide (fun x => vT_bd Ha.out Hb0.out u x hsu)
      have Hcall := hide hcall
      have Hvk := hide hvk
      clear hsu hcall hvk
      go_enter Try.func35, Try.ntmps35
      go_wp2_with fail
      clear c0 c1 cs f0 f1 f2
      refine Hcall.out.mono ?_
      rintro e w1 ⟨x, ok, rfl, hvu, hb1⟩
      have hz1 := hb1.size
      have Hb1 := hide hb1
      obtain ⟨f0, f1, f2⟩ := Hbox.out.below hb1 (by omega)
      clear hb1
      cases ok
      · have Hf : Hid (vT la lb t = none) := hide (by
          rw [Hv.out]; unfold vN
          rw [Hvk.out, hvu]; rfl)
        clear hvu
        go_wp2_with fail
        go_ret2
        exact ⟨0, false, rfl, Hf.out, Hbx.out.trans (Hb1.out.mono (by omega))⟩
      · obtain ⟨x1, x2⟩ := Hbd.out x hvu
        have Hvx : Hid ((vK la lb t.kids).getD 0 none = some x) := hide (by rw [Hvk.out, hvu]; rfl)
        clear hvu Hvk Hbd Hcall
        obtain ⟨b', off', u1, op3, n3, A3, l3, c3, e', hce, hvk, hsu, hcall⟩ := Hkid.out 1 w1 (by omega) Hb1.out
        injection e' with e'
        injection e' with e1 e2
        subst e1; subst e2
        obtain ⟨c0, c1, cs⟩ := hce
        rw [Nat.one_mul] at c0 c1 cs
        have Hbd := hide (fun x => vT_bd Ha.out Hb0.out u1 x hsu)
        have Hcall := hide hcall
        have Hvk := hide hvk
        clear hsu hcall hvk
        go_wp2_with fail
        clear c0 c1 cs f0 f1 f2
        refine Hcall.out.mono ?_
        rintro e w2 ⟨y, ok, rfl, hvu, hb2⟩
        have hz2 := hb2.size
        have Hb2 := hide (Hb1.out.trans (hb2.mono (by omega)))
        obtain ⟨f0, f1, f2⟩ := Hbox.out.below Hb2.out (by omega)
        clear hb2
        cases ok
        · have Hf : Hid (vT la lb t = none) := hide (by
            rw [Hv.out]; unfold vN
            rw [Hvx.out, Hvk.out, hvu]; simp)
          clear hvu
          go_wp2_with fail
          go_ret2
          exact ⟨0, false, rfl, Hf.out, Hbx.out.trans (Hb2.out.mono (by omega))⟩
        · obtain ⟨y1, y2⟩ := Hbd.out y hvu
          have Hf0 : Hid (vT la lb t = vIn (vOp 9 x y)) := hide (by
            rw [Hv.out]; unfold vN
            rw [Hvx.out, Hvk.out, hvu]; simp)
          clear hvu Hvk Hbd Hcall
          have Hop : Hid (vOp 9 x y = bitI (x == y)) := hide (by simp [vOp])
          have Hin : Hid (vT la lb t = some (bitI (x == y))) := hide (by
            rw [Hf0.out, Hop.out]
            cases (x == y) <;> rfl)
          go_wp2_with fail
          refine (bit_any (x == y) _).mono ?_
          rintro e w3 ⟨rfl, rfl⟩
          generalize (x == y) = cb9 at *
          cases cb9
          all_goals
            simp only [bitI, Bool.false_eq_true, if_false, if_true] at Hin ⊢
            go_wp2_with fail
            go_ret2
            exact ⟨_, true, rfl, Hin.out, Hbx.out.trans (Hb2.out.mono (by omega))⟩
    · have h9 : kidsOf 10 = 2 := by decide
      have hlN : len = 2 := by omega
      subst hlN
      clear h9
      obtain ⟨b, off, u, op2, n2, A2, l2, c2, rfl, hce, hvk, hsu, hcall⟩ := Hkid.out 0 _ (by omega) (Below.refl _ _)
      obtain ⟨c0, c1, cs⟩ := hce
      rw [Nat.zero_mul, Nat.add_zero] at c0 c1 cs
      have Hbd := hide (fun x => vT_bd Ha.out Hb0.out u x hsu)
      have Hcall := hide hcall
      have Hvk := hide hvk
      clear hsu hcall hvk
      go_enter Try.func35, Try.ntmps35
      go_wp2_with fail
      clear c0 c1 cs f0 f1 f2
      refine Hcall.out.mono ?_
      rintro e w1 ⟨x, ok, rfl, hvu, hb1⟩
      have hz1 := hb1.size
      have Hb1 := hide hb1
      obtain ⟨f0, f1, f2⟩ := Hbox.out.below hb1 (by omega)
      clear hb1
      cases ok
      · have Hf : Hid (vT la lb t = none) := hide (by
          rw [Hv.out]; unfold vN
          rw [Hvk.out, hvu]; rfl)
        clear hvu
        go_wp2_with fail
        go_ret2
        exact ⟨0, false, rfl, Hf.out, Hbx.out.trans (Hb1.out.mono (by omega))⟩
      · obtain ⟨x1, x2⟩ := Hbd.out x hvu
        have Hvx : Hid ((vK la lb t.kids).getD 0 none = some x) := hide (by rw [Hvk.out, hvu]; rfl)
        clear hvu Hvk Hbd Hcall
        obtain ⟨b', off', u1, op3, n3, A3, l3, c3, e', hce, hvk, hsu, hcall⟩ := Hkid.out 1 w1 (by omega) Hb1.out
        injection e' with e'
        injection e' with e1 e2
        subst e1; subst e2
        obtain ⟨c0, c1, cs⟩ := hce
        rw [Nat.one_mul] at c0 c1 cs
        have Hbd := hide (fun x => vT_bd Ha.out Hb0.out u1 x hsu)
        have Hcall := hide hcall
        have Hvk := hide hvk
        clear hsu hcall hvk
        go_wp2_with fail
        clear c0 c1 cs f0 f1 f2
        refine Hcall.out.mono ?_
        rintro e w2 ⟨y, ok, rfl, hvu, hb2⟩
        have hz2 := hb2.size
        have Hb2 := hide (Hb1.out.trans (hb2.mono (by omega)))
        obtain ⟨f0, f1, f2⟩ := Hbox.out.below Hb2.out (by omega)
        clear hb2
        cases ok
        · have Hf : Hid (vT la lb t = none) := hide (by
            rw [Hv.out]; unfold vN
            rw [Hvx.out, Hvk.out, hvu]; simp)
          clear hvu
          go_wp2_with fail
          go_ret2
          exact ⟨0, false, rfl, Hf.out, Hbx.out.trans (Hb2.out.mono (by omega))⟩
        · obtain ⟨y1, y2⟩ := Hbd.out y hvu
          have Hf0 : Hid (vT la lb t = vIn (vOp 10 x y)) := hide (by
            rw [Hv.out]; unfold vN
            rw [Hvx.out, Hvk.out, hvu]; simp)
          clear hvu Hvk Hbd Hcall
          have Hop : Hid (vOp 10 x y = bitI (decide (x < y))) := hide (by simp [vOp])
          have Hin : Hid (vT la lb t = some (bitI (decide (x < y)))) := hide (by
            rw [Hf0.out, Hop.out]
            cases (decide (x < y)) <;> rfl)
          go_wp2_with fail
          refine (bit_any (decide (x < y)) _).mono ?_
          rintro e w3 ⟨rfl, rfl⟩
          generalize (decide (x < y)) = cb9 at *
          cases cb9
          all_goals
            simp only [bitI, Bool.false_eq_true, if_false, if_true] at Hin ⊢
            go_wp2_with fail
            go_ret2
            exact ⟨_, true, rfl, Hin.out, Hbx.out.trans (Hb2.out.mono (by omega))⟩
    · have h9 : kidsOf 11 = 2 := by decide
      have hlN : len = 2 := by omega
      subst hlN
      clear h9
      obtain ⟨b, off, u, op2, n2, A2, l2, c2, rfl, hce, hvk, hsu, hcall⟩ := Hkid.out 0 _ (by omega) (Below.refl _ _)
      obtain ⟨c0, c1, cs⟩ := hce
      rw [Nat.zero_mul, Nat.add_zero] at c0 c1 cs
      have Hbd := hide (fun x => vT_bd Ha.out Hb0.out u x hsu)
      have Hcall := hide hcall
      have Hvk := hide hvk
      clear hsu hcall hvk
      go_enter Try.func35, Try.ntmps35
      go_wp2_with fail
      clear c0 c1 cs f0 f1 f2
      refine Hcall.out.mono ?_
      rintro e w1 ⟨x, ok, rfl, hvu, hb1⟩
      have hz1 := hb1.size
      have Hb1 := hide hb1
      obtain ⟨f0, f1, f2⟩ := Hbox.out.below hb1 (by omega)
      clear hb1
      cases ok
      · have Hf : Hid (vT la lb t = none) := hide (by
          rw [Hv.out]; unfold vN
          rw [Hvk.out, hvu]; rfl)
        clear hvu
        go_wp2_with fail
        go_ret2
        exact ⟨0, false, rfl, Hf.out, Hbx.out.trans (Hb1.out.mono (by omega))⟩
      · obtain ⟨x1, x2⟩ := Hbd.out x hvu
        have Hvx : Hid ((vK la lb t.kids).getD 0 none = some x) := hide (by rw [Hvk.out, hvu]; rfl)
        clear hvu Hvk Hbd Hcall
        obtain ⟨b', off', u1, op3, n3, A3, l3, c3, e', hce, hvk, hsu, hcall⟩ := Hkid.out 1 w1 (by omega) Hb1.out
        injection e' with e'
        injection e' with e1 e2
        subst e1; subst e2
        obtain ⟨c0, c1, cs⟩ := hce
        rw [Nat.one_mul] at c0 c1 cs
        have Hbd := hide (fun x => vT_bd Ha.out Hb0.out u1 x hsu)
        have Hcall := hide hcall
        have Hvk := hide hvk
        clear hsu hcall hvk
        go_wp2_with fail
        clear c0 c1 cs f0 f1 f2
        refine Hcall.out.mono ?_
        rintro e w2 ⟨y, ok, rfl, hvu, hb2⟩
        have hz2 := hb2.size
        have Hb2 := hide (Hb1.out.trans (hb2.mono (by omega)))
        obtain ⟨f0, f1, f2⟩ := Hbox.out.below Hb2.out (by omega)
        clear hb2
        cases ok
        · have Hf : Hid (vT la lb t = none) := hide (by
            rw [Hv.out]; unfold vN
            rw [Hvx.out, Hvk.out, hvu]; simp)
          clear hvu
          go_wp2_with fail
          go_ret2
          exact ⟨0, false, rfl, Hf.out, Hbx.out.trans (Hb2.out.mono (by omega))⟩
        · obtain ⟨y1, y2⟩ := Hbd.out y hvu
          have Hf0 : Hid (vT la lb t = vIn (vOp 11 x y)) := hide (by
            rw [Hv.out]; unfold vN
            rw [Hvx.out, Hvk.out, hvu]; simp)
          clear hvu Hvk Hbd Hcall
          have Hop : Hid (vOp 11 x y = bitI (decide (x ≤ y))) := hide (by simp [vOp])
          have Hin : Hid (vT la lb t = some (bitI (decide (x ≤ y)))) := hide (by
            rw [Hf0.out, Hop.out]
            cases (decide (x ≤ y)) <;> rfl)
          go_wp2_with fail
          refine (bit_any (decide (x ≤ y)) _).mono ?_
          rintro e w3 ⟨rfl, rfl⟩
          generalize (decide (x ≤ y)) = cb9 at *
          cases cb9
          all_goals
            simp only [bitI, Bool.false_eq_true, if_false, if_true] at Hin ⊢
            go_wp2_with fail
            go_ret2
            exact ⟨_, true, rfl, Hin.out, Hbx.out.trans (Hb2.out.mono (by omega))⟩
    · have h9 : kidsOf 12 = 2 := by decide
      have hlN : len = 2 := by omega
      subst hlN
      clear h9
      obtain ⟨b, off, u, op2, n2, A2, l2, c2, rfl, hce, hvk, hsu, hcall⟩ := Hkid.out 0 _ (by omega) (Below.refl _ _)
      obtain ⟨c0, c1, cs⟩ := hce
      rw [Nat.zero_mul, Nat.add_zero] at c0 c1 cs
      have Hbd := hide (fun x => vT_bd Ha.out Hb0.out u x hsu)
      have Hcall := hide hcall
      have Hvk := hide hvk
      clear hsu hcall hvk
      go_enter Try.func35, Try.ntmps35
      go_wp2_with fail
      clear c0 c1 cs f0 f1 f2
      refine Hcall.out.mono ?_
      rintro e w1 ⟨x, ok, rfl, hvu, hb1⟩
      have hz1 := hb1.size
      have Hb1 := hide hb1
      obtain ⟨f0, f1, f2⟩ := Hbox.out.below hb1 (by omega)
      clear hb1
      cases ok
      · have Hf : Hid (vT la lb t = none) := hide (by
          rw [Hv.out]; unfold vN
          rw [Hvk.out, hvu]; rfl)
        clear hvu
        go_wp2_with fail
        go_ret2
        exact ⟨0, false, rfl, Hf.out, Hbx.out.trans (Hb1.out.mono (by omega))⟩
      · obtain ⟨x1, x2⟩ := Hbd.out x hvu
        have Hvx : Hid ((vK la lb t.kids).getD 0 none = some x) := hide (by rw [Hvk.out, hvu]; rfl)
        clear hvu Hvk Hbd Hcall
        obtain ⟨b', off', u1, op3, n3, A3, l3, c3, e', hce, hvk, hsu, hcall⟩ := Hkid.out 1 w1 (by omega) Hb1.out
        injection e' with e'
        injection e' with e1 e2
        subst e1; subst e2
        obtain ⟨c0, c1, cs⟩ := hce
        rw [Nat.one_mul] at c0 c1 cs
        have Hbd := hide (fun x => vT_bd Ha.out Hb0.out u1 x hsu)
        have Hcall := hide hcall
        have Hvk := hide hvk
        clear hsu hcall hvk
        go_wp2_with fail
        clear c0 c1 cs f0 f1 f2
        refine Hcall.out.mono ?_
        rintro e w2 ⟨y, ok, rfl, hvu, hb2⟩
        have hz2 := hb2.size
        have Hb2 := hide (Hb1.out.trans (hb2.mono (by omega)))
        obtain ⟨f0, f1, f2⟩ := Hbox.out.below Hb2.out (by omega)
        clear hb2
        cases ok
        · have Hf : Hid (vT la lb t = none) := hide (by
            rw [Hv.out]; unfold vN
            rw [Hvx.out, Hvk.out, hvu]; simp)
          clear hvu
          go_wp2_with fail
          go_ret2
          exact ⟨0, false, rfl, Hf.out, Hbx.out.trans (Hb2.out.mono (by omega))⟩
        · obtain ⟨y1, y2⟩ := Hbd.out y hvu
          have Hf0 : Hid (vT la lb t = vIn (vOp 12 x y)) := hide (by
            rw [Hv.out]; unfold vN
            rw [Hvx.out, Hvk.out, hvu]; simp)
          clear hvu Hvk Hbd Hcall
          have Hop : Hid (vOp 12 x y = x + y) := hide (by simp [vOp])
          by_cases z1 : -1000 ≤ x + y
          · have z1b : decide (-1000 ≤ x + y) = true := by simp; omega
            by_cases z2 : x + y ≤ 1000
            · have z2b : decide (x + y ≤ 1000) = true := by simp; omega
              have Hin : Hid (vT la lb t = some (x + y)) := hide (by rw [Hf0.out, Hop.out]; unfold vIn; rw [if_pos ⟨z1, z2⟩])
              go_wp2_with fail
              go_ret2
              exact ⟨_, true, rfl, Hin.out, Hbx.out.trans (Hb2.out.mono (by omega))⟩
            · have z2b : decide (x + y ≤ 1000) = false := by simp; omega
              have Hin : Hid (vT la lb t = none) := hide (by rw [Hf0.out, Hop.out]; unfold vIn; rw [if_neg (fun h => z2 h.2)])
              go_wp2_with fail
              go_ret2
              exact ⟨_, false, rfl, Hin.out, Hbx.out.trans (Hb2.out.mono (by omega))⟩
          · have z1b : decide (-1000 ≤ x + y) = false := by simp; omega
            have Hin : Hid (vT la lb t = none) := hide (by rw [Hf0.out, Hop.out]; unfold vIn; rw [if_neg (fun h => z1 h.1)])
            go_wp2_with fail
            go_ret2
            exact ⟨_, false, rfl, Hin.out, Hbx.out.trans (Hb2.out.mono (by omega))⟩
    · have h9 : kidsOf 13 = 2 := by decide
      have hlN : len = 2 := by omega
      subst hlN
      clear h9
      obtain ⟨b, off, u, op2, n2, A2, l2, c2, rfl, hce, hvk, hsu, hcall⟩ := Hkid.out 0 _ (by omega) (Below.refl _ _)
      obtain ⟨c0, c1, cs⟩ := hce
      rw [Nat.zero_mul, Nat.add_zero] at c0 c1 cs
      have Hbd := hide (fun x => vT_bd Ha.out Hb0.out u x hsu)
      have Hcall := hide hcall
      have Hvk := hide hvk
      clear hsu hcall hvk
      go_enter Try.func35, Try.ntmps35
      go_wp2_with fail
      clear c0 c1 cs f0 f1 f2
      refine Hcall.out.mono ?_
      rintro e w1 ⟨x, ok, rfl, hvu, hb1⟩
      have hz1 := hb1.size
      have Hb1 := hide hb1
      obtain ⟨f0, f1, f2⟩ := Hbox.out.below hb1 (by omega)
      clear hb1
      cases ok
      · have Hf : Hid (vT la lb t = none) := hide (by
          rw [Hv.out]; unfold vN
          rw [Hvk.out, hvu]; rfl)
        clear hvu
        go_wp2_with fail
        go_ret2
        exact ⟨0, false, rfl, Hf.out, Hbx.out.trans (Hb1.out.mono (by omega))⟩
      · obtain ⟨x1, x2⟩ := Hbd.out x hvu
        have Hvx : Hid ((vK la lb t.kids).getD 0 none = some x) := hide (by rw [Hvk.out, hvu]; rfl)
        clear hvu Hvk Hbd Hcall
        obtain ⟨b', off', u1, op3, n3, A3, l3, c3, e', hce, hvk, hsu, hcall⟩ := Hkid.out 1 w1 (by omega) Hb1.out
        injection e' with e'
        injection e' with e1 e2
        subst e1; subst e2
        obtain ⟨c0, c1, cs⟩ := hce
        rw [Nat.one_mul] at c0 c1 cs
        have Hbd := hide (fun x => vT_bd Ha.out Hb0.out u1 x hsu)
        have Hcall := hide hcall
        have Hvk := hide hvk
        clear hsu hcall hvk
        go_wp2_with fail
        clear c0 c1 cs f0 f1 f2
        refine Hcall.out.mono ?_
        rintro e w2 ⟨y, ok, rfl, hvu, hb2⟩
        have hz2 := hb2.size
        have Hb2 := hide (Hb1.out.trans (hb2.mono (by omega)))
        obtain ⟨f0, f1, f2⟩ := Hbox.out.below Hb2.out (by omega)
        clear hb2
        cases ok
        · have Hf : Hid (vT la lb t = none) := hide (by
            rw [Hv.out]; unfold vN
            rw [Hvx.out, Hvk.out, hvu]; simp)
          clear hvu
          go_wp2_with fail
          go_ret2
          exact ⟨0, false, rfl, Hf.out, Hbx.out.trans (Hb2.out.mono (by omega))⟩
        · obtain ⟨y1, y2⟩ := Hbd.out y hvu
          have Hf0 : Hid (vT la lb t = vIn (vOp 13 x y)) := hide (by
            rw [Hv.out]; unfold vN
            rw [Hvx.out, Hvk.out, hvu]; simp)
          clear hvu Hvk Hbd Hcall
          have Hop : Hid (vOp 13 x y = x - y) := hide (by simp [vOp])
          by_cases z1 : -1000 ≤ x - y
          · have z1b : decide (-1000 ≤ x - y) = true := by simp; omega
            by_cases z2 : x - y ≤ 1000
            · have z2b : decide (x - y ≤ 1000) = true := by simp; omega
              have Hin : Hid (vT la lb t = some (x - y)) := hide (by rw [Hf0.out, Hop.out]; unfold vIn; rw [if_pos ⟨z1, z2⟩])
              go_wp2_with fail
              go_ret2
              exact ⟨_, true, rfl, Hin.out, Hbx.out.trans (Hb2.out.mono (by omega))⟩
            · have z2b : decide (x - y ≤ 1000) = false := by simp; omega
              have Hin : Hid (vT la lb t = none) := hide (by rw [Hf0.out, Hop.out]; unfold vIn; rw [if_neg (fun h => z2 h.2)])
              go_wp2_with fail
              go_ret2
              exact ⟨_, false, rfl, Hin.out, Hbx.out.trans (Hb2.out.mono (by omega))⟩
          · have z1b : decide (-1000 ≤ x - y) = false := by simp; omega
            have Hin : Hid (vT la lb t = none) := hide (by rw [Hf0.out, Hop.out]; unfold vIn; rw [if_neg (fun h => z1 h.1)])
            go_wp2_with fail
            go_ret2
            exact ⟨_, false, rfl, Hin.out, Hbx.out.trans (Hb2.out.mono (by omega))⟩
    · have h9 : kidsOf 14 = 2 := by decide
      have hlN : len = 2 := by omega
      subst hlN
      clear h9
      obtain ⟨b, off, u, op2, n2, A2, l2, c2, rfl, hce, hvk, hsu, hcall⟩ := Hkid.out 0 _ (by omega) (Below.refl _ _)
      obtain ⟨c0, c1, cs⟩ := hce
      rw [Nat.zero_mul, Nat.add_zero] at c0 c1 cs
      have Hbd := hide (fun x => vT_bd Ha.out Hb0.out u x hsu)
      have Hcall := hide hcall
      have Hvk := hide hvk
      clear hsu hcall hvk
      go_enter Try.func35, Try.ntmps35
      go_wp2_with fail
      clear c0 c1 cs f0 f1 f2
      refine Hcall.out.mono ?_
      rintro e w1 ⟨x, ok, rfl, hvu, hb1⟩
      have hz1 := hb1.size
      have Hb1 := hide hb1
      obtain ⟨f0, f1, f2⟩ := Hbox.out.below hb1 (by omega)
      clear hb1
      cases ok
      · have Hf : Hid (vT la lb t = none) := hide (by
          rw [Hv.out]; unfold vN
          rw [Hvk.out, hvu]; rfl)
        clear hvu
        go_wp2_with fail
        go_ret2
        exact ⟨0, false, rfl, Hf.out, Hbx.out.trans (Hb1.out.mono (by omega))⟩
      · obtain ⟨x1, x2⟩ := Hbd.out x hvu
        have Hvx : Hid ((vK la lb t.kids).getD 0 none = some x) := hide (by rw [Hvk.out, hvu]; rfl)
        clear hvu Hvk Hbd Hcall
        obtain ⟨b', off', u1, op3, n3, A3, l3, c3, e', hce, hvk, hsu, hcall⟩ := Hkid.out 1 w1 (by omega) Hb1.out
        injection e' with e'
        injection e' with e1 e2
        subst e1; subst e2
        obtain ⟨c0, c1, cs⟩ := hce
        rw [Nat.one_mul] at c0 c1 cs
        have Hbd := hide (fun x => vT_bd Ha.out Hb0.out u1 x hsu)
        have Hcall := hide hcall
        have Hvk := hide hvk
        clear hsu hcall hvk
        go_wp2_with fail
        clear c0 c1 cs f0 f1 f2
        refine Hcall.out.mono ?_
        rintro e w2 ⟨y, ok, rfl, hvu, hb2⟩
        have hz2 := hb2.size
        have Hb2 := hide (Hb1.out.trans (hb2.mono (by omega)))
        obtain ⟨f0, f1, f2⟩ := Hbox.out.below Hb2.out (by omega)
        clear hb2
        cases ok
        · have Hf : Hid (vT la lb t = none) := hide (by
            rw [Hv.out]; unfold vN
            rw [Hvx.out, Hvk.out, hvu]; simp)
          clear hvu
          go_wp2_with fail
          go_ret2
          exact ⟨0, false, rfl, Hf.out, Hbx.out.trans (Hb2.out.mono (by omega))⟩
        · obtain ⟨y1, y2⟩ := Hbd.out y hvu
          have Hf0 : Hid (vT la lb t = vIn (vOp 14 x y)) := hide (by
            rw [Hv.out]; unfold vN
            rw [Hvx.out, Hvk.out, hvu]; simp)
          clear hvu Hvk Hbd Hcall
          have Hop : Hid (vOp 14 x y = x * y) := hide (by simp [vOp])
          have hmu : -1002001 ≤ x * y ∧ x * y ≤ 1002001 := mul_bd x1 x2 y1 y2
          obtain ⟨mu1, mu2⟩ := hmu
          by_cases z1 : -1000 ≤ x * y
          · have z1b : decide (-1000 ≤ x * y) = true := decide_eq_true z1
            by_cases z2 : x * y ≤ 1000
            · have z2b : decide (x * y ≤ 1000) = true := decide_eq_true z2
              have Hin : Hid (vT la lb t = some (x * y)) := hide (by rw [Hf0.out, Hop.out]; unfold vIn; rw [if_pos ⟨z1, z2⟩])
              go_wp2_with fail
              go_ret2
              exact ⟨_, true, rfl, Hin.out, Hbx.out.trans (Hb2.out.mono (by omega))⟩
            · have z2b : decide (x * y ≤ 1000) = false := decide_eq_false z2
              have Hin : Hid (vT la lb t = none) := hide (by rw [Hf0.out, Hop.out]; unfold vIn; rw [if_neg (fun h => z2 h.2)])
              go_wp2_with fail
              go_ret2
              exact ⟨_, false, rfl, Hin.out, Hbx.out.trans (Hb2.out.mono (by omega))⟩
          · have z1b : decide (-1000 ≤ x * y) = false := decide_eq_false z1
            have Hin : Hid (vT la lb t = none) := hide (by rw [Hf0.out, Hop.out]; unfold vIn; rw [if_neg (fun h => z1 h.1)])
            go_wp2_with fail
            go_ret2
            exact ⟨_, false, rfl, Hin.out, Hbx.out.trans (Hb2.out.mono (by omega))⟩
    · have h9 : kidsOf 15 = 3 := by decide
      have hlN : len = 3 := by omega
      subst hlN
      clear h9
      obtain ⟨b, off, u, op2, n2, A2, l2, c2, rfl, hce, hvk, hsu, hcall⟩ := Hkid.out 0 _ (by omega) (Below.refl _ _)
      obtain ⟨c0, c1, cs⟩ := hce
      rw [Nat.zero_mul, Nat.add_zero] at c0 c1 cs
      have Hbd := hide (fun x => vT_bd Ha.out Hb0.out u x hsu)
      have Hcall := hide hcall
      have Hvk := hide hvk
      clear hsu hcall hvk
      go_enter Try.func35, Try.ntmps35
      go_wp2_with fail
      clear c0 c1 cs f0 f1 f2
      refine Hcall.out.mono ?_
      rintro e w1 ⟨x, ok, rfl, hvu, hb1⟩
      have hz1 := hb1.size
      have Hb1 := hide hb1
      obtain ⟨f0, f1, f2⟩ := Hbox.out.below hb1 (by omega)
      clear hb1
      cases ok
      · have Hf : Hid (vT la lb t = none) := hide (by
          rw [Hv.out]; unfold vN
          rw [Hvk.out, hvu]; rfl)
        clear hvu
        go_wp2_with fail
        go_ret2
        exact ⟨0, false, rfl, Hf.out, Hbx.out.trans (Hb1.out.mono (by omega))⟩
      · obtain ⟨x1, x2⟩ := Hbd.out x hvu
        have Hvx : Hid ((vK la lb t.kids).getD 0 none = some x) := hide (by rw [Hvk.out, hvu]; rfl)
        clear hvu Hvk Hbd Hcall
        by_cases hx0 : x = 0
        · have hxb : (x == 0) = true := by simp [hx0]
          obtain ⟨b', off', u1, op3, n3, A3, l3, c3, e', hce, hvk, hsu, hcall⟩ := Hkid.out 2 w1 (by omega) Hb1.out
          injection e' with e'
          injection e' with e1 e2
          subst e1; subst e2
          obtain ⟨c0, c1, cs⟩ := hce
          have Hcall := hide hcall
          have Hvk := hide hvk
          clear hsu hcall hvk
          go_wp2_with fail
          clear c0 c1 cs f0 f1 f2
          refine Hcall.out.mono ?_
          rintro e w2 ⟨y, ok, rfl, hvu, hb2⟩
          have Hb2 := hide (Hb1.out.trans (hb2.mono (by omega)))
          have Hf : Hid (vT la lb t = if ok = true then some y else none) := hide (by
            rw [Hv.out]; unfold vN
            rw [Hvx.out]
            simp [hx0]
            have := Hvk.out
            rw [hvu] at this
            simpa [List.getD] using this)
          clear hvu hb2 hx0
          go_wp2_with fail
          go_ret2
          exact ⟨y, ok, rfl, Hf.out, Hbx.out.trans (Hb2.out.mono (by omega))⟩
        · have hxb : (x == 0) = false := by simp [hx0]
          obtain ⟨b', off', u1, op3, n3, A3, l3, c3, e', hce, hvk, hsu, hcall⟩ := Hkid.out 1 w1 (by omega) Hb1.out
          injection e' with e'
          injection e' with e1 e2
          subst e1; subst e2
          obtain ⟨c0, c1, cs⟩ := hce
          rw [Nat.one_mul] at c0 c1 cs
          have Hbd := hide (fun x => vT_bd Ha.out Hb0.out u1 x hsu)
          have Hcall := hide hcall
          have Hvk := hide hvk
          clear hsu hcall hvk
          go_wp2_with fail
          clear c0 c1 cs f0 f1 f2
          refine Hcall.out.mono ?_
          rintro e w2 ⟨y, ok, rfl, hvu, hb2⟩
          have hz2 := hb2.size
          have Hb2 := hide (Hb1.out.trans (hb2.mono (by omega)))
          obtain ⟨f0, f1, f2⟩ := Hbox.out.below Hb2.out (by omega)
          clear hb2
          cases ok
          · have Hf : Hid (vT la lb t = none) := hide (by
              rw [Hv.out]; unfold vN
              rw [Hvx.out, Hvk.out, hvu]; simp [hx0])
            clear hvu
            go_wp2_with fail
            go_ret2
            exact ⟨0, false, rfl, Hf.out, Hbx.out.trans (Hb2.out.mono (by omega))⟩
          · obtain ⟨y1, y2⟩ := Hbd.out y hvu
            have Hf0 : Hid (vT la lb t = vIn (vOp 15 x y)) := hide (by
              rw [Hv.out]; unfold vN
              rw [Hvx.out, Hvk.out, hvu]; simp [hx0])
            clear hvu Hvk Hbd Hcall
            have Hop : Hid (vOp 15 x y = y) := hide (by simp [vOp])
            by_cases z1 : -1000 ≤ y
            · have z1b : decide (-1000 ≤ y) = true := by simp; omega
              by_cases z2 : y ≤ 1000
              · have z2b : decide (y ≤ 1000) = true := by simp; omega
                have Hin : Hid (vT la lb t = some (y)) := hide (by rw [Hf0.out, Hop.out]; unfold vIn; rw [if_pos ⟨z1, z2⟩])
                go_wp2_with fail
                go_ret2
                exact ⟨_, true, rfl, Hin.out, Hbx.out.trans (Hb2.out.mono (by omega))⟩
              · have z2b : decide (y ≤ 1000) = false := by simp; omega
                have Hin : Hid (vT la lb t = none) := hide (by rw [Hf0.out, Hop.out]; unfold vIn; rw [if_neg (fun h => z2 h.2)])
                go_wp2_with fail
                go_ret2
                exact ⟨_, false, rfl, Hin.out, Hbx.out.trans (Hb2.out.mono (by omega))⟩
            · exact absurd y1 z1
end Go.Proofs.Ytkjclofkfmkbdaa
