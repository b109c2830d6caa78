/- The walks of the reference's bit and value. The walk of the reference's value. The walks of the reference's Value and True. -/
import Derived.Test.YtbppdalfcldodaaGreatGSort
import Derived.Test.YtbppdalfcldodaaGreatGRef
namespace Go.Proofs.YtbppdalfcldodaaGreat
open Go.RowKit Ex
set_option linter.unusedSimpArgs false
set_option linter.unusedVariables false

def bitI (p : Bool) : Int := if p = true then 1 else 0
theorem bit_any (p : Bool) (w : World) : Calls Tryz.prog 140 #[.bool p] w fun e w' => e = .returned (.int .i64 (bitI p)) ∧ w = w' := by
  cases p
  all_goals
    go_enter Tryz.func140, Tryz.ntmps140
    go_wp2_with fail
    go_ret
    exact ⟨rfl, rfl⟩
def vOp (op x y : Int) : Int := if op = 9 then bitI (x == y) else if op = 10 then bitI (decide (x < y)) else if op = 11 then bitI (decide (x ≤ y)) else if op = 12 then x + y else if op = 13 then x - y else if op = 14 then x * y else y
def vIn (z : Int) : Option Int := if -1000 ≤ z ∧ z ≤ 1000 then some z else none
def vN (a b : List Int) (op n : Int) (vs : List (Option Int)) : Option Int :=
  if op = 1 ∨ op = 2 then some n else if op = 3 then some (a.getD n.toNat 0) else if op = 4 then some (b.getD n.toNat 0)
  else match vs.getD 0 none with
    | none => none
    | some x => if op = 5 then some (1 - x) else if op = 6 ∧ x = 0 then some 0 else if (op = 7 ∧ x = 1) ∨ (op = 8 ∧ x = 0) then some 1 else if op = 15 ∧ x = 0 then vs.getD 2 none
      else match vs.getD 1 none with
        | none => none
        | some y => vIn (vOp op x y)
mutual
def vT (a b : List Int) : T → Option Int
  | .mk op n ks => vN a b op n (vK a b ks)
def vK (a b : List Int) : List T → List (Option Int)
  | [] => []
  | k :: r => vT a b k :: vK a b r
end
theorem vT_eq (a b : List Int) (t : T) : vT a b t = vN a b t.op t.n (vK a b t.kids) := by cases t; rw [vT]; rfl
theorem vK_at (a b : List Int) : ∀ (ks : List T) (k : Nat) (u : T), ks[k]? = some u → (vK a b ks).getD k none = vT a b u
  | [], k, u, h => by simp at h
  | c :: r, 0, u, h => by simp at h; subst h; rw [vK]; rfl
  | c :: r, k + 1, u, h => by
    rw [vK]
    have := vK_at a b r k u (by simpa using h)
    simpa [List.getD] using this
def Small (l : List Int) : Prop := ∀ x ∈ l, -1000 ≤ x ∧ x ≤ 1000
theorem small_getD {l : List Int} (h : Small l) (i : Nat) : -1000 ≤ l.getD i 0 ∧ l.getD i 0 ≤ 1000 := by
  unfold List.getD
  cases hi : l[i]? with
  | none => simp
  | some x => exact h x (List.mem_of_getElem? hi)
theorem vIn_bd {z x : Int} (h : vIn z = some x) : -1000 ≤ x ∧ x ≤ 1000 := by
  unfold vIn at h
  split at h
  · injection h with h; subst h; assumption
  · cases h
theorem vN_bd {a b : List Int} (ha : Small a) (hb : Small b) {op n x : Int} {vs : List (Option Int)} (hn : -1000 ≤ n ∧ n ≤ 1000) (hvs : ∀ k y, vs.getD k none = some y → -1000 ≤ y ∧ y ≤ 1001) (h : vN a b op n vs = some x) : -1000 ≤ x ∧ x ≤ 1001 := by
  unfold vN at h
  split at h
  · injection h with h; omega
  · split at h
    · injection h with h; have := small_getD ha n.toNat; omega
    · split at h
      · injection h with h; have := small_getD hb n.toNat; omega
      · split at h
        · cases h
        · rename_i y hy
          have hy2 := hvs 0 y hy
          split at h
          · injection h with h; omega
          · split at h
            · injection h with h; omega
            · split at h
              · injection h with h; omega
              · split at h
                · exact hvs 2 x h
                · split at h
                  · cases h
                  · have := vIn_bd h; omega
mutual
theorem vT_bd {a b : List Int} (ha : Small a) (hb : Small b) : ∀ (t : T) (x : Int), sound t = true → vT a b t = some x → -1000 ≤ x ∧ x ≤ 1001
  | .mk op n ks, x, hs, h => by
    rw [vT] at h
    have hk := sound_kids hs
    have hn := sound_small hs
    simp only [T.kids, T.n] at hk hn
    exact vN_bd ha hb hn (fun k y hy => vK_bd ha hb ks k y hk hy) h
theorem vK_bd {a b : List Int} (ha : Small a) (hb : Small b) : ∀ (ks : List T) (k : Nat) (y : Int), soundK ks = true → (vK a b ks).getD k none = some y → -1000 ≤ y ∧ y ≤ 1001
  | [], k, y, _, h => by rw [vK] at h; simp [List.getD] at h
  | c :: r, 0, y, hs, h => by
    rw [soundK, Bool.and_eq_true] at hs
    rw [vK] at h
    exact vT_bd ha hb c y hs.1 (by simpa [List.getD] using h)
  | c :: r, k + 1, y, hs, h => by
    rw [soundK, Bool.and_eq_true] at hs
    rw [vK] at h
    exact vK_bd ha hb r k y hs.2 (by simpa [List.getD] using h)
end
theorem rdK_at : ∀ (ks : List T) (k : Nat) (u : T) (op : Int) (i : Nat), ks[k]? = some u → rdT u op i = true → rdK ks op i = true
  | [], k, u, op, i, h, _ => by simp at h
  | c :: r, 0, u, op, i, h, hr => by simp at h; subst h; rw [rdK, hr]; rfl
  | c :: r, k + 1, u, op, i, h, hr => by rw [rdK, rdK_at r k u op i (by simpa using h) hr]; simp
def ValPost (v : Option Int) (w : World) (e : Ending) (w' : World) : Prop := ∃ (x : Int) (ok : Bool), e = .returned (.tuple #[.int .i64 x, .bool ok]) ∧ v = (if ok = true then some x else none) ∧ Below w.heap.size w w'
end Go.Proofs.YtbppdalfcldodaaGreat
namespace Go.Proofs.YtbppdalfcldodaaGreat
open Go.RowKit Ex
set_option linter.unusedSimpArgs false
set_option linter.unusedVariables false

theorem sound_len15' {t : T} (h : sound t = true) : (t.kids.length : Int) = kidsOf t.op := by
  rw [sound_eq, nodeB_eq, Bool.and_eq_true, Bool.and_eq_true] at h
  simpa using h.1.1
theorem mul_bd {x y : Int} (x1 : -1000 ≤ x) (x2 : x ≤ 1001) (y1 : -1000 ≤ y) (y2 : y ≤ 1001) : -1002001 ≤ x * y ∧ x * y ≤ 1002001 := by
  have h1 : 0 ≤ (1001 - x) * (1001 + y) := Int.mul_nonneg (by omega) (by omega)
  have h2 : 0 ≤ (1001 + x) * (1001 - y) := Int.mul_nonneg (by omega) (by omega)
  have h3 : 0 ≤ (1001 - x) * (1001 - y) := Int.mul_nonneg (by omega) (by omega)
  have h4 : 0 ≤ (1001 + x) * (1001 + y) := Int.mul_nonneg (by omega) (by omega)
  simp only [Int.sub_mul, Int.add_mul, Int.mul_sub, Int.mul_add] at h1 h2 h3 h4
  generalize x * y = z at *
  omega

set_option maxRecDepth 100000 in
set_option maxHeartbeats 40000000 in
theorem rvalue_any (B : Nat) (Aa : Option Addr) (na ca : Nat) (la : List Int) (Ab : Option Addr) (nb cb : Nat) (lb : List Int) (hna : na ≤ 1000) (hnb : nb ≤ 1000) (ha : Small la) (hb0 : Small lb) : ∀ (d : Nat) (op n : Int) (A : Option Addr) (len cap : Nat) (t : T) (w : World), B ≤ w.heap.size → RE w B d op n A len cap t → sound t = true → RI w B Aa na la → RI w B Ab nb lb → (∀ i, rdT t 3 i = true → i < na) → (∀ i, rdT t 4 i = true → i < nb) →
    Calls Tryz.prog 110 #[.agg #[.int .i64 op, .int .i64 n, .slice A len cap], .slice Aa na ca, .slice Ab nb cb] w (ValPost (vT la lb t) w) := by
  have Ha := hide ha
  have Hb0 := hide hb0
  clear ha hb0
  intro d
  induction d with
  | zero => intro op n A len cap t w hB h; exact absurd h id
  | succ d ih =>
    intro op n A len cap t w hB hre hsd hria hrib h3 h4
    have IH := hide ih; clear ih
    obtain ⟨ho1, ho2, hl3⟩ := sound_op hsd
    have hle := sound_len15' hsd
    have hnb2 := sound_small hsd
    have Hv : Hid (vT la lb t = vN la lb op n (vK la lb t.kids)) := hide (by
      have e := hre.eq_mk
      rw [vT_eq, show t.op = op by rw [e]; rfl, show t.n = n by rw [e]; rfl])
    obtain ⟨hx1, hx2, hlen, hcap, hmx, _⟩ := id hre
    rw [hx1] at ho1 ho2 hle
    rw [hx2] at hnb2
    rw [hlen] at hl3 hle
    unfold maxLen at hmx
    have Hn : Hid ((op = 3 ∨ op = 4) → 0 ≤ n ∧ n < 6) := hide (fun ho => by
      have h := sound_n (op := op) hsd ho hx1
      rw [hx2] at h; exact h)
    have H3 : Hid (∀ i : Nat, op = 3 → n = (i : Int) → i < na) := hide (fun i ho hi => h3 i (by rw [rdT_eq, hx1, hx2, ho, hi]; simp))
    have H4 : Hid (∀ i : Nat, op = 4 → n = (i : Int) → i < nb) := hide (fun i ho hi => h4 i (by rw [rdT_eq, hx1, hx2, ho, hi]; simp))
    have Hk3 : Hid (∀ (k : Nat) (u : T), t.kids[k]? = some u → (∀ i, rdT u 3 i = true → i < na) ∧ (∀ i, rdT u 4 i = true → i < nb)) := hide (fun k u hu =>
      ⟨fun i hi => h3 i (by rw [rdT_eq, rdK_at t.kids k u 3 i hu hi]; simp), fun i hi => h4 i (by rw [rdT_eq, rdK_at t.kids k u 4 i hu hi]; simp)⟩)
    have hbx : Below w.heap.size w (w.alloc (.cells #[.int .i64 op, .int .i64 n, .slice A len cap] 25)) := (Below.refl _ _).alloc (Nat.le_refl _) _
    have Hre := hide (hre.below (hbx.mono hB))
    have Hria := hide (hria.below (hbx.mono hB))
    have Hrib := hide (hrib.below (hbx.mono hB))
    have Hbox := hide (box_new w op n A len cap 25)
    have hz0 : w.heap.size + 1 ≤ (w.alloc (.cells #[.int .i64 op, .int .i64 n, .slice A len cap] 25)).heap.size := by simp
    have Hbx := hide hbx
    have Hsd := hide hsd
    clear hre hsd hria hrib h3 h4 hx1 hx2 hbx hlen
    have Hkid : Hid (∀ (k : Nat) (w' : World), k < len → Below (w.alloc (.cells #[.int .i64 op, .int .i64 n, .slice A len cap] 25)).heap.size (w.alloc (.cells #[.int .i64 op, .int .i64 n, .slice A len cap] 25)) w' → ∃ b off u op2 n2 A2 l2 c2, A = some ⟨b, off, none⟩ ∧ CellE w' b (off + k * 3) op2 n2 A2 l2 c2 ∧ (vK la lb t.kids).getD k none = vT la lb u ∧ sound u = true ∧ Calls Tryz.prog 110 #[.agg #[.int .i64 op2, .int .i64 n2, .slice A2 l2 c2], .slice Aa na ca, .slice Ab nb cb] w' (ValPost (vT la lb u) w')) := hide (fun k w' hk hb => by
      obtain ⟨b, off, u, op2, n2, A2, l2, c2, e, _, hku, hce, hre2⟩ := (Hre.out.below (hb.mono (by omega))).at_ hk
      obtain ⟨q3, q4⟩ := Hk3.out k u hku
      have hsu := soundK_at _ k u (sound_kids Hsd.out) hku
      exact ⟨b, off, u, op2, n2, A2, l2, c2, e, hce, vK_at la lb t.kids k u hku, hsu, IH.out op2 n2 A2 l2 c2 u w' (by have := hb.size; omega) hre2 hsu (Hria.out.below (hb.mono (by omega))) (Hrib.out.below (hb.mono (by omega))) q3 q4⟩)
    clear IH Hk3 Hsd
    obtain ⟨f0, f1, f2⟩ := Hbox.out
    have hop : op = 1 ∨ op = 2 ∨ op = 3 ∨ op = 4 ∨ op = 5 ∨ op = 6 ∨ op = 7 ∨ op = 8 ∨ op = 9 ∨ op = 10 ∨ op = 11 ∨ op = 12 ∨ op = 13 ∨ op = 14 ∨ op = 15 := by omega
    clear ho1 ho2
    rcases hop with rfl | rfl | rfl | rfl | rfl | rfl | rfl | rfl | rfl | rfl | rfl | rfl | rfl | rfl | rfl
    · have Hf : Hid (vT la lb t = some n) := hide (Hv.out.trans (by simp [vN]))
      go_enter Tryz.func110, Tryz.ntmps110
      go_wp2_with fail
      go_ret2
      exact ⟨n, true, rfl, Hf.out, Hbx.out⟩
    · have Hf : Hid (vT la lb t = some n) := hide (Hv.out.trans (by simp [vN]))
      go_enter Tryz.func110, Tryz.ntmps110
      go_wp2_with fail
      go_ret2
      exact ⟨n, true, rfl, Hf.out, Hbx.out⟩
    · obtain ⟨n0, n6⟩ := Hn.out (by omega)
      obtain ⟨q, rfl⟩ := Int.eq_ofNat_of_zero_le n0
      have hq := H3.out q rfl rfl
      have hq' : (q : Int) < (na : Int) := by omega
      obtain ⟨bb, bo, x, rfl, hbb, hx, cx⟩ := Hria.out.at_ hq
      have Hf : Hid (vT la lb t = some x) := hide (Hv.out.trans (by simp [vN, List.getD, hx]))
      clear hx
      go_enter Tryz.func110, Tryz.ntmps110
      go_wp2_with fail
      go_ret2
      exact ⟨x, true, rfl, Hf.out, Hbx.out⟩
    · obtain ⟨n0, n6⟩ := Hn.out (by omega)
      obtain ⟨q, rfl⟩ := Int.eq_ofNat_of_zero_le n0
      have hq := H4.out q rfl rfl
      have hq' : (q : Int) < (nb : Int) := by omega
      obtain ⟨bb, bo, x, rfl, hbb, hx, cx⟩ := Hrib.out.at_ hq
      have Hf : Hid (vT la lb t = some x) := hide (Hv.out.trans (by simp [vN, List.getD, hx]))
      clear hx
      go_enter Tryz.func110, Tryz.ntmps110
      go_wp2_with fail
      go_ret2
      exact ⟨x, true, rfl, Hf.out, Hbx.out⟩
    · have h9 : kidsOf 5 = 1 := by decide
      have hlN : len = 1 := by omega
      subst hlN
      clear h9
      obtain ⟨b, off, u, op2, n2, A2, l2, c2, rfl, hce, hvk, hsu, hcall⟩ := Hkid.out 0 _ (by omega) (Below.refl _ _)
      obtain ⟨c0, c1, cs⟩ := hce
      rw [Nat.zero_mul, Nat.add_zero] at c0 c1 cs
      have Hbd := hide (fun x => vT_bd Ha.out Hb0.out u x hsu)
      have Hcall := hide hcall
      have Hvk := hide hvk
      clear hsu hcall hvk
      go_enter Tryz.func110, Tryz.ntmps110
      go_wp2_with fail
      clear c0 c1 cs f0 f1 f2
      refine Hcall.out.mono ?_
      rintro e w1 ⟨x, ok, rfl, hvu, hb1⟩
      have hz1 := hb1.size
      have Hb1 := hide hb1
      obtain ⟨f0, f1, f2⟩ := Hbox.out.below hb1 (by omega)
      clear hb1
      cases ok
      · have Hf : Hid (vT la lb t = none) := hide (by
          rw [Hv.out]; unfold vN
          rw [Hvk.out, hvu]; rfl)
        clear hvu
        go_wp2_with fail
        go_ret2
        exact ⟨0, false, rfl, Hf.out, Hbx.out.trans (Hb1.out.mono (by omega))⟩
      · obtain ⟨x1, x2⟩ := Hbd.out x hvu
        have Hvx : Hid ((vK la lb t.kids).getD 0 none = some x) := hide (by rw [Hvk.out, hvu]; rfl)
        clear hvu Hvk Hbd Hcall
        have Hf : Hid (vT la lb t = some (1 - x)) := hide (by
          rw [Hv.out]; unfold vN
          rw [Hvx.out]; simp)
        go_wp2_with fail
        go_ret2
        exact ⟨_, true, rfl, Hf.out, Hbx.out.trans (Hb1.out.mono (by omega))⟩
    · have h9 : kidsOf 6 = 2 := by decide
      have hlN : len = 2 := by omega
      subst hlN
      clear h9
      obtain ⟨b, off, u, op2, n2, A2, l2, c2, rfl, hce, hvk, hsu, hcall⟩ := Hkid.out 0 _ (by omega) (Below.refl _ _)
      obtain ⟨c0, c1, cs⟩ := hce
      rw [Nat.zero_mul, Nat.add_zero] at c0 c1 cs
      have Hbd := hide (fun x => vT_bd Ha.out Hb0.out u x hsu)
      have Hcall := hide hcall
      have Hvk := hide hvk
      clear hsu hcall hvk
      go_enter Tryz.func110, Tryz.ntmps110
      go_wp2_with fail
      clear c0 c1 cs f0 f1 f2
      refine Hcall.out.mono ?_
      rintro e w1 ⟨x, ok, rfl, hvu, hb1⟩
      have hz1 := hb1.size
      have Hb1 := hide hb1
      obtain ⟨f0, f1, f2⟩ := Hbox.out.below hb1 (by omega)
      clear hb1
      cases ok
      · have Hf : Hid (vT la lb t = none) := hide (by
          rw [Hv.out]; unfold vN
          rw [Hvk.out, hvu]; rfl)
        clear hvu
        go_wp2_with fail
        go_ret2
        exact ⟨0, false, rfl, Hf.out, Hbx.out.trans (Hb1.out.mono (by omega))⟩
      · obtain ⟨x1, x2⟩ := Hbd.out x hvu
        have Hvx : Hid ((vK la lb t.kids).getD 0 none = some x) := hide (by rw [Hvk.out, hvu]; rfl)
        clear hvu Hvk Hbd Hcall
        by_cases hx0 : x = 0
        · have hxb : (x == 0) = true := by simp [hx0]
          have Hf : Hid (vT la lb t = some 0) := hide (by
            rw [Hv.out]; unfold vN
            rw [Hvx.out]; simp [hx0])
          clear hx0
          go_wp2_with fail
          go_ret2
          exact ⟨_, true, rfl, Hf.out, Hbx.out.trans (Hb1.out.mono (by omega))⟩
        · have hxb : (x == 0) = false := by simp [hx0]
          obtain ⟨b', off', u1, op3, n3, A3, l3, c3, e', hce, hvk, hsu, hcall⟩ := Hkid.out 1 w1 (by omega) Hb1.out
          injection e' with e'
          injection e' with e1 e2
          subst e1; subst e2
          obtain ⟨c0, c1, cs⟩ := hce
          rw [Nat.one_mul] at c0 c1 cs
          have Hbd := hide (fun x => vT_bd Ha.out Hb0.out u1 x hsu)
          have Hcall := hide hcall
          have Hvk := hide hvk
          clear hsu hcall hvk
          go_wp2_with fail
          clear c0 c1 cs f0 f1 f2
          refine Hcall.out.mono ?_
          rintro e w2 ⟨y, ok, rfl, hvu, hb2⟩
          have hz2 := hb2.size
          have Hb2 := hide (Hb1.out.trans (hb2.mono (by omega)))
          obtain ⟨f0, f1, f2⟩ := Hbox.out.below Hb2.out (by omega)
          clear hb2
          cases ok
          · have Hf : Hid (vT la lb t = none) := hide (by
              rw [Hv.out]; unfold vN
              rw [Hvx.out, Hvk.out, hvu]; simp [hx0])
            clear hvu
            go_wp2_with fail
            go_ret2
            exact ⟨0, false, rfl, Hf.out, Hbx.out.trans (Hb2.out.mono (by omega))⟩
          · obtain ⟨y1, y2⟩ := Hbd.out y hvu
            have Hf0 : Hid (vT la lb t = vIn (vOp 6 x y)) := hide (by
              rw [Hv.out]; unfold vN
              rw [Hvx.out, Hvk.out, hvu]; simp [hx0])
            clear hvu Hvk Hbd Hcall
            have Hop : Hid (vOp 6 x y = y) := hide (by simp [vOp])
            by_cases z1 : -1000 ≤ y
            · have z1b : decide (-1000 ≤ y) = true := by simp; omega
              by_cases z2 : y ≤ 1000
              · have z2b : decide (y ≤ 1000) = true := by simp; omega
                have Hin : Hid (vT la lb t = some (y)) := hide (by rw [Hf0.out, Hop.out]; unfold vIn; rw [if_pos ⟨z1, z2⟩])
                go_wp2_with fail
                go_ret2
                exact ⟨_, true, rfl, Hin.out, Hbx.out.trans (Hb2.out.mono (by omega))⟩
              · have z2b : decide (y ≤ 1000) = false := by simp; omega
                have Hin : Hid (vT la lb t = none) := hide (by rw [Hf0.out, Hop.out]; unfold vIn; rw [if_neg (fun h => z2 h.2)])
                go_wp2_with fail
                go_ret2
                exact ⟨_, false, rfl, Hin.out, Hbx.out.trans (Hb2.out.mono (by omega))⟩
            · exact absurd y1 z1
    · have h9 : kidsOf 7 = 2 := by decide
      have hlN : len = 2 := by omega
      subst hlN
      clear h9
      obtain ⟨b, off, u, op2, n2, A2, l2, c2, rfl, hce, hvk, hsu, hcall⟩ := Hkid.out 0 _ (by omega) (Below.refl _ _)
      obtain ⟨c0, c1, cs⟩ := hce
      rw [Nat.zero_mul, Nat.add_zero] at c0 c1 cs
      have Hbd := hide (fun x => vT_bd Ha.out Hb0.out u x hsu)
      have Hcall := hide hcall
      have Hvk := hide hvk
      clear hsu hcall hvk
      go_enter Tryz.func110, Tryz.ntmps110
      go_wp2_with fail
      clear c0 c1 cs f0 f1 f2
      refine Hcall.out.mono ?_
      rintro e w1 ⟨x, ok, rfl, hvu, hb1⟩
      have hz1 := hb1.size
      have Hb1 := hide hb1
      obtain ⟨f0, f1, f2⟩ := Hbox.out.below hb1 (by omega)
      clear hb1
      cases ok
      · have Hf : Hid (vT la lb t = none) := hide (by
          rw [Hv.out]; unfold vN
          rw [Hvk.out, hvu]; rfl)
        clear hvu
        go_wp2_with fail
        go_ret2
        exact ⟨0, false, rfl, Hf.out, Hbx.out.trans (Hb1.out.mono (by omega))⟩
      · obtain ⟨x1, x2⟩ := Hbd.out x hvu
        have Hvx : Hid ((vK la lb t.kids).getD 0 none = some x) := hide (by rw [Hvk.out, hvu]; rfl)
        clear hvu Hvk Hbd Hcall
        by_cases hx0 : x = 1
        · have hxb : (x == 1) = true := by simp [hx0]
          have Hf : Hid (vT la lb t = some 1) := hide (by
            rw [Hv.out]; unfold vN
            rw [Hvx.out]; simp [hx0])
          clear hx0
          go_wp2_with fail
          go_ret2
          exact ⟨_, true, rfl, Hf.out, Hbx.out.trans (Hb1.out.mono (by omega))⟩
        · have hxb : (x == 1) = false := by simp [hx0]
          obtain ⟨b', off', u1, op3, n3, A3, l3, c3, e', hce, hvk, hsu, hcall⟩ := Hkid.out 1 w1 (by omega) Hb1.out
          injection e' with e'
          injection e' with e1 e2
          subst e1; subst e2
          obtain ⟨c0, c1, cs⟩ := hce
          rw [Nat.one_mul] at c0 c1 cs
          have Hbd := hide (fun x => vT_bd Ha.out Hb0.out u1 x hsu)
          have Hcall := hide hcall
          have Hvk := hide hvk
          clear hsu hcall hvk
          go_wp2_with fail
          clear c0 c1 cs f0 f1 f2
          refine Hcall.out.mono ?_
          rintro e w2 ⟨y, ok, rfl, hvu, hb2⟩
          have hz2 := hb2.size
          have Hb2 := hide (Hb1.out.trans (hb2.mono (by omega)))
          obtain ⟨f0, f1, f2⟩ := Hbox.out.below Hb2.out (by omega)
          clear hb2
          cases ok
          · have Hf : Hid (vT la lb t = none) := hide (by
              rw [Hv.out]; unfold vN
              rw [Hvx.out, Hvk.out, hvu]; simp [hx0])
            clear hvu
            go_wp2_with fail
            go_ret2
            exact ⟨0, false, rfl, Hf.out, Hbx.out.trans (Hb2.out.mono (by omega))⟩
          · obtain ⟨y1, y2⟩ := Hbd.out y hvu
            have Hf0 : Hid (vT la lb t = vIn (vOp 7 x y)) := hide (by
              rw [Hv.out]; unfold vN
              rw [Hvx.out, Hvk.out, hvu]; simp [hx0])
            clear hvu Hvk Hbd Hcall
            have Hop : Hid (vOp 7 x y = y) := hide (by simp [vOp])
            by_cases z1 : -1000 ≤ y
            · have z1b : decide (-1000 ≤ y) = true := by simp; omega
              by_cases z2 : y ≤ 1000
              · have z2b : decide (y ≤ 1000) = true := by simp; omega
                have Hin : Hid (vT la lb t = some (y)) := hide (by rw [Hf0.out, Hop.out]; unfold vIn; rw [if_pos ⟨z1, z2⟩])
                go_wp2_with fail
                go_ret2
                exact ⟨_, true, rfl, Hin.out, Hbx.out.trans (Hb2.out.mono (by omega))⟩
              · have z2b : decide (y ≤ 1000) = false := by simp; omega
                have Hin : Hid (vT la lb t = none) := hide (by rw [Hf0.out, Hop.out]; unfold vIn; rw [if_neg (fun h => z2 h.2)])
                go_wp2_with fail
                go_ret2
                exact ⟨_, false, rfl, Hin.out, Hbx.out.trans (Hb2.out.mono (by omega))⟩
            · exact absurd y1 z1
    · have h9 : kidsOf 8 = 2 := by decide
      have hlN : len = 2 := by omega
      subst hlN
      clear h9
      obtain ⟨b, off, u, op2, n2, A2, l2, c2, rfl, hce, hvk, hsu, hcall⟩ := Hkid.out 0 _ (by omega) (Below.refl _ _)
      obtain ⟨c0, c1, cs⟩ := hce
      rw [Nat.zero_mul, Nat.add_zero] at c0 c1 cs
      have Hbd := hide (fun x => vT_bd Ha.out Hb0.out u x hsu)
      have Hcall := hide hcall
      have Hvk := hide hvk
      clear hsu hcall hvk
      go_enter Tryz.func110, Tryz.ntmps110
      go_wp2_with fail
      clear c0 c1 cs f0 f1 f2
      refine Hcall.out.mono ?_
      rintro e w1 ⟨x, ok, rfl, hvu, hb1⟩
      have hz1 := hb1.size
      have Hb1 := hide hb1
      obtain ⟨f0, f1, f2⟩ := Hbox.out.below hb1 (by omega)
      clear hb1
      cases ok
      · have Hf : Hid (vT la lb t = none) := hide (by
          rw [Hv.out]; unfold vN
          rw [Hvk.out, hvu]; rfl)
        clear hvu
        go_wp2_with fail
        go_ret2
        exact ⟨0, false, rfl, Hf.out, Hbx.out.trans (Hb1.out.mono (by omega))⟩
      · obtain ⟨x1, x2⟩ := Hbd.out x hvu
        have Hvx : Hid ((vK la lb t.kids).getD 0 none = some x) := hide (by rw [Hvk.out, hvu]; rfl)
        clear hvu Hvk Hbd Hcall
        by_cases hx0 : x = 0
        · have hxb : (x == 0) = true := by simp [hx0]
          have Hf : Hid (vT la lb t = some 1) := hide (by
            rw [Hv.out]; unfold vN
            rw [Hvx.out]; simp [hx0])
          clear hx0
          go_wp2_with fail
          go_ret2
          exact ⟨_, true, rfl, Hf.out, Hbx.out.trans (Hb1.out.mono (by omega))⟩
        · have hxb : (x == 0) = false := by simp [hx0]
          obtain ⟨b', off', u1, op3, n3, A3, l3, c3, e', hce, hvk, hsu, hcall⟩ := Hkid.out 1 w1 (by omega) Hb1.out
          injection e' with e'
          injection e' with e1 e2
          subst e1; subst e2
          obtain ⟨c0, c1, cs⟩ := hce
          rw [Nat.one_mul] at c0 c1 cs
          have Hbd := hide (fun x => vT_bd Ha.out Hb0.out u1 x hsu)
          have Hcall := hide hcall
          have Hvk := hide hvk
          clear hsu hcall hvk
          go_wp2_with fail
          clear c0 c1 cs f0 f1 f2
          refine Hcall.out.mono ?_
          rintro e w2 ⟨y, ok, rfl, hvu, hb2⟩
          have hz2 := hb2.size
          have Hb2 := hide (Hb1.out.trans (hb2.mono (by omega)))
          obtain ⟨f0, f1, f2⟩ := Hbox.out.below Hb2.out (by omega)
          clear hb2
          cases ok
          · have Hf : Hid (vT la lb t = none) := hide (by
              rw [Hv.out]; unfold vN
              rw [Hvx.out, Hvk.out, hvu]; simp [hx0])
            clear hvu
            go_wp2_with fail
            go_ret2
            exact ⟨0, false, rfl, Hf.out, Hbx.out.trans (Hb2.out.mono (by omega))⟩
          · obtain ⟨y1, y2⟩ := Hbd.out y hvu
            have Hf0 : Hid (vT la lb t = vIn (vOp 8 x y)) := hide (by
              rw [Hv.out]; unfold vN
              rw [Hvx.out, Hvk.out, hvu]; simp [hx0])
            clear hvu Hvk Hbd Hcall
            have Hop : Hid (vOp 8 x y = y) := hide (by simp [vOp])
            by_cases z1 : -1000 ≤ y
            · have z1b : decide (-1000 ≤ y) = true := by simp; omega
              by_cases z2 : y ≤ 1000
              · have z2b : decide (y ≤ 1000) = true := by simp; omega
                have Hin : Hid (vT la lb t = some (y)) := hide (by rw [Hf0.out, Hop.out]; unfold vIn; rw [if_pos ⟨z1, z2⟩])
                go_wp2_with fail
                go_ret2
                exact ⟨_, true, rfl, Hin.out, Hbx.out.trans (Hb2.out.mono (by omega))⟩
              · have z2b : decide (y ≤ 1000) = false := by simp; omega
                have Hin : Hid (vT la lb t = none) := hide (by rw [Hf0.out, Hop.out]; unfold vIn; rw [if_neg (fun h => z2 h.2)])
                go_wp2_with fail
                go_ret2
                exact ⟨_, false, rfl, Hin.out, Hbx.out.trans (Hb2.out.mono (by omega))⟩
            · exact absurd y1 z1
    · have h9 : kidsOf 9 = 2 := by decide
      have hlN : len = 2 := by omega
      subst hlN
      clear h9
      obtain ⟨b, off, u, op2, n2, A2, l2, c2, rfl, hce, hvk, hsu, hcall⟩ := Hkid.out 0 _ (by omega) (Below.refl _ _)
      obtain ⟨c0, c1, cs⟩ := hce
      rw [Nat.zero_mul, Nat.add_zero] at c0 c1 cs
      have Hbd := hide (fun x => vT_bd Ha.out Hb0.out u x hsu)
      have Hcall := hide hcall
      have Hvk := hide hvk
      clear hsu hcall hvk
      go_enter Tryz.func110, Tryz.ntmps110
      go_wp2_with fail
      clear c0 c1 cs f0 f1 f2
      refine Hcall.out.mono ?_
      rintro e w1 ⟨x, ok, rfl, hvu, hb1⟩
      have hz1 := hb1.size
      have Hb1 := hide hb1
      obtain ⟨f0, f1, f2⟩ := Hbox.out.below hb1 (by omega)
      clear hb1
      cases ok
      · have Hf : Hid (vT la lb t = none) := hide (by
          rw [Hv.out]; unfold vN
          rw [Hvk.out, hvu]; rfl)
        clear hvu
        go_wp2_with fail
        go_ret2
        exact ⟨0, false, rfl, Hf.out, Hbx.out.trans (Hb1.out.mono (by omega))⟩
      · obtain ⟨x1, x2⟩ := Hbd.out x hvu
        have Hvx : Hid ((vK la lb t.kids).getD 0 none = some x) := hide (by rw [Hvk.out, hvu]; rfl)
        clear hvu Hvk Hbd Hcall
        obtain ⟨b', off', u1, op3, n3, A3, l3, c3, e', hce, hvk, hsu, hcall⟩ := Hkid.out 1 w1 (by omega) Hb1.out
        injection e' with e'
        injection e' with e1 e2
        subst e1; subst e2
        obtain ⟨c0, c1, cs⟩ := hce
        rw [Nat.one_mul] at c0 c1 cs
        have Hbd := hide (fun x => vT_bd Ha.out Hb0.out u1 x hsu)
        have Hcall := hide hcall
        have Hvk := hide hvk
        clear hsu hcall hvk
        go_wp2_with fail
        clear c0 c1 cs f0 f1 f2
        refine Hcall.out.mono ?_
        rintro e w2 ⟨y, ok, rfl, hvu, hb2⟩
        have hz2 := hb2.size
        have Hb2 := hide (Hb1.out.trans (hb2.mono (by omega)))
        obtain ⟨f0, f1, f2⟩ := Hbox.out.below Hb2.out (by omega)
        clear hb2
        cases ok
        · have Hf : Hid (vT la lb t = none) := hide (by
            rw [Hv.out]; unfold vN
            rw [Hvx.out, Hvk.out, hvu]; simp)
          clear hvu
          go_wp2_with fail
          go_ret2
          exact ⟨0, false, rfl, Hf.out, Hbx.out.trans (Hb2.out.mono (by omega))⟩
        · obtain ⟨y1, y2⟩ := Hbd.out y hvu
          have Hf0 : Hid (vT la lb t = vIn (vOp 9 x y)) := hide (by
            rw [Hv.out]; unfold vN
            rw [Hvx.out, Hvk.out, hvu]; simp)
          clear hvu Hvk Hbd Hcall
          have Hop : Hid (vOp 9 x y = bitI (x == y)) := hide (by simp [vOp])
          have Hin : Hid (vT la lb t = some (bitI (x == y))) := hide (by
            rw [Hf0.out, Hop.out]
            cases (x == y) <;> rfl)
          go_wp2_with fail
          refine (bit_any (x == y) _).mono ?_
          rintro e w3 ⟨rfl, rfl⟩
          generalize (x == y) = cb9 at *
          cases cb9
          all_goals
            simp only [bitI, Bool.false_eq_true, if_false, if_true] at Hin ⊢
            go_wp2_with fail
            go_ret2
            exact ⟨_, true, rfl, Hin.out, Hbx.out.trans (Hb2.out.mono (by omega))⟩
    · have h9 : kidsOf 10 = 2 := by decide
      have hlN : len = 2 := by omega
      subst hlN
      clear h9
      obtain ⟨b, off, u, op2, n2, A2, l2, c2, rfl, hce, hvk, hsu, hcall⟩ := Hkid.out 0 _ (by omega) (Below.refl _ _)
      obtain ⟨c0, c1, cs⟩ := hce
      rw [Nat.zero_mul, Nat.add_zero] at c0 c1 cs
      have Hbd := hide (fun x => vT_bd Ha.out Hb0.out u x hsu)
      have Hcall := hide hcall
      have Hvk := hide hvk
      clear hsu hcall hvk
      go_enter Tryz.func110, Tryz.ntmps110
      go_wp2_with fail
      clear c0 c1 cs f0 f1 f2
      refine Hcall.out.mono ?_
      rintro e w1 ⟨x, ok, rfl, hvu, hb1⟩
      have hz1 := hb1.size
      have Hb1 := hide hb1
      obtain ⟨f0, f1, f2⟩ := Hbox.out.below hb1 (by omega)
      clear hb1
      cases ok
      · have Hf : Hid (vT la lb t = none) := hide (by
          rw [Hv.out]; unfold vN
          rw [Hvk.out, hvu]; rfl)
        clear hvu
        go_wp2_with fail
        go_ret2
        exact ⟨0, false, rfl, Hf.out, Hbx.out.trans (Hb1.out.mono (by omega))⟩
      · obtain ⟨x1, x2⟩ := Hbd.out x hvu
        have Hvx : Hid ((vK la lb t.kids).getD 0 none = some x) := hide (by rw [Hvk.out, hvu]; rfl)
        clear hvu Hvk Hbd Hcall
        obtain ⟨b', off', u1, op3, n3, A3, l3, c3, e', hce, hvk, hsu, hcall⟩ := Hkid.out 1 w1 (by omega) Hb1.out
        injection e' with e'
        injection e' with e1 e2
        subst e1; subst e2
        obtain ⟨c0, c1, cs⟩ := hce
        rw [Nat.one_mul] at c0 c1 cs
        have Hbd := hide (fun x => vT_bd Ha.out Hb0.out u1 x hsu)
        have Hcall := hide hcall
        have Hvk := hide hvk
        clear hsu hcall hvk
        go_wp2_with fail
        clear c0 c1 cs f0 f1 f2
        refine Hcall.out.mono ?_
        rintro e w2 ⟨y, ok, rfl, hvu, hb2⟩
        have hz2 := hb2.size
        have Hb2 := hide (Hb1.out.trans (hb2.mono (by omega)))
        obtain ⟨f0, f1, f2⟩ := Hbox.out.below Hb2.out (by omega)
        clear hb2
        cases ok
        · have Hf : Hid (vT la lb t = none) := hide (by
            rw [Hv.out]; unfold vN
            rw [Hvx.out, Hvk.out, hvu]; simp)
          clear hvu
          go_wp2_with fail
          go_ret2
          exact ⟨0, false, rfl, Hf.out, Hbx.out.trans (Hb2.out.mono (by omega))⟩
        · obtain ⟨y1, y2⟩ := Hbd.out y hvu
          have Hf0 : Hid (vT la lb t = vIn (vOp 10 x y)) := hide (by
            rw [Hv.out]; unfold vN
            rw [Hvx.out, Hvk.out, hvu]; simp)
          clear hvu Hvk Hbd Hcall
          have Hop : Hid (vOp 10 x y = bitI (decide (x < y))) := hide (by simp [vOp])
          have Hin : Hid (vT la lb t = some (bitI (decide (x < y)))) := hide (by
            rw [Hf0.out, Hop.out]
            cases (decide (x < y)) <;> rfl)
          go_wp2_with fail
          refine (bit_any (decide (x < y)) _).mono ?_
          rintro e w3 ⟨rfl, rfl⟩
          generalize (decide (x < y)) = cb9 at *
          cases cb9
          all_goals
            simp only [bitI, Bool.false_eq_true, if_false, if_true] at Hin ⊢
            go_wp2_with fail
            go_ret2
            exact ⟨_, true, rfl, Hin.out, Hbx.out.trans (Hb2.out.mono (by omega))⟩
    · have h9 : kidsOf 11 = 2 := by decide
      have hlN : len = 2 := by omega
      subst hlN
      clear h9
      obtain ⟨b, off, u, op2, n2, A2, l2, c2, rfl, hce, hvk, hsu, hcall⟩ := Hkid.out 0 _ (by omega) (Below.refl _ _)
      obtain ⟨c0, c1, cs⟩ := hce
      rw [Nat.zero_mul, Nat.add_zero] at c0 c1 cs
      have Hbd := hide (fun x => vT_bd Ha.out Hb0.out u x hsu)
      have Hcall := hide hcall
      have Hvk := hide hvk
      clear hsu hcall hvk
      go_enter Tryz.func110, Tryz.ntmps110
      go_wp2_with fail
      clear c0 c1 cs f0 f1 f2
      refine Hcall.out.mono ?_
      rintro e w1 ⟨x, ok, rfl, hvu, hb1⟩
      have hz1 := hb1.size
      have Hb1 := hide hb1
      obtain ⟨f0, f1, f2⟩ := Hbox.out.below hb1 (by omega)
      clear hb1
      cases ok
      · have Hf : Hid (vT la lb t = none) := hide (by
          rw [Hv.out]; unfold vN
          rw [Hvk.out, hvu]; rfl)
        clear hvu
        go_wp2_with fail
        go_ret2
        exact ⟨0, false, rfl, Hf.out, Hbx.out.trans (Hb1.out.mono (by omega))⟩
      · obtain ⟨x1, x2⟩ := Hbd.out x hvu
        have Hvx : Hid ((vK la lb t.kids).getD 0 none = some x) := hide (by rw [Hvk.out, hvu]; rfl)
        clear hvu Hvk Hbd Hcall
        obtain ⟨b', off', u1, op3, n3, A3, l3, c3, e', hce, hvk, hsu, hcall⟩ := Hkid.out 1 w1 (by omega) Hb1.out
        injection e' with e'
        injection e' with e1 e2
        subst e1; subst e2
        obtain ⟨c0, c1, cs⟩ := hce
        rw [Nat.one_mul] at c0 c1 cs
        have Hbd := hide (fun x => vT_bd Ha.out Hb0.out u1 x hsu)
        have Hcall := hide hcall
        have Hvk := hide hvk
        clear hsu hcall hvk
        go_wp2_with fail
        clear c0 c1 cs f0 f1 f2
        refine Hcall.out.mono ?_
        rintro e w2 ⟨y, ok, rfl, hvu, hb2⟩
        have hz2 := hb2.size
        have Hb2 := hide (Hb1.out.trans (hb2.mono (by omega)))
        obtain ⟨f0, f1, f2⟩ := Hbox.out.below Hb2.out (by omega)
        clear hb2
        cases ok
        · have Hf : Hid (vT la lb t = none) := hide (by
            rw [Hv.out]; unfold vN
            rw [Hvx.out, Hvk.out, hvu]; simp)
          clear hvu
          go_wp2_with fail
          go_ret2
          exact ⟨0, false, rfl, Hf.out, Hbx.out.trans (Hb2.out.mono (by omega))⟩
        · obtain ⟨y1, y2⟩ := Hbd.out y hvu
          have Hf0 : Hid (vT la lb t = vIn (vOp 11 x y)) := hide (by
            rw [Hv.out]; unfold vN
            rw [Hvx.out, Hvk.out, hvu]; simp)
          clear hvu Hvk Hbd Hcall
          have Hop : Hid (vOp 11 x y = bitI (decide (x ≤ y))) := hide (by simp [vOp])
          have Hin : Hid (vT la lb t = some (bitI (decide (x ≤ y)))) := hide (by
            rw [Hf0.out, Hop.out]
            cases (decide (x ≤ y)) <;> rfl)
          go_wp2_with fail
          refine (bit_any (decide (x ≤ y)) _).mono ?_
          rintro e w3 ⟨rfl, rfl⟩
          generalize (decide (x ≤ y)) = cb9 at *
          cases cb9
          all_goals
            simp only [bitI, Bool.false_eq_true, if_false, if_true] at Hin ⊢
            go_wp2_with fail
            go_ret2
            exact ⟨_, true, rfl, Hin.out, Hbx.out.trans (Hb2.out.mono (by omega))⟩
    · have h9 : kidsOf 12 = 2 := by decide
      have hlN : len = 2 := by omega
      subst hlN
      clear h9
      obtain ⟨b, off, u, op2, n2, A2, l2, c2, rfl, hce, hvk, hsu, hcall⟩ := Hkid.out 0 _ (by omega) (Below.refl _ _)
      obtain ⟨c0, c1, cs⟩ := hce
      rw [Nat.zero_mul, Nat.add_zero] at c0 c1 cs
      have Hbd := hide (fun x => vT_bd Ha.out Hb0.out u x hsu)
      have Hcall := hide hcall
      have Hvk := hide hvk
      clear hsu hcall hvk
      go_enter Tryz.func110, Tryz.ntmps110
      go_wp2_with fail
      clear c0 c1 cs f0 f1 f2
      refine Hcall.out.mono ?_
      rintro e w1 ⟨x, ok, rfl, hvu, hb1⟩
      have hz1 := hb1.size
      have Hb1 := hide hb1
      obtain ⟨f0, f1, f2⟩ := Hbox.out.below hb1 (by omega)
      clear hb1
      cases ok
      · have Hf : Hid (vT la lb t = none) := hide (by
          rw [Hv.out]; unfold vN
          rw [Hvk.out, hvu]; rfl)
        clear hvu
        go_wp2_with fail
        go_ret2
        exact ⟨0, false, rfl, Hf.out, Hbx.out.trans (Hb1.out.mono (by omega))⟩
      · obtain ⟨x1, x2⟩ := Hbd.out x hvu
        have Hvx : Hid ((vK la lb t.kids).getD 0 none = some x) := hide (by rw [Hvk.out, hvu]; rfl)
        clear hvu Hvk Hbd Hcall
        obtain ⟨b', off', u1, op3, n3, A3, l3, c3, e', hce, hvk, hsu, hcall⟩ := Hkid.out 1 w1 (by omega) Hb1.out
        injection e' with e'
        injection e' with e1 e2
        subst e1; subst e2
        obtain ⟨c0, c1, cs⟩ := hce
        rw [Nat.one_mul] at c0 c1 cs
        have Hbd := hide (fun x => vT_bd Ha.out Hb0.out u1 x hsu)
        have Hcall := hide hcall
        have Hvk := hide hvk
        clear hsu hcall hvk
        go_wp2_with fail
        clear c0 c1 cs f0 f1 f2
        refine Hcall.out.mono ?_
        rintro e w2 ⟨y, ok, rfl, hvu, hb2⟩
        have hz2 := hb2.size
        have Hb2 := hide (Hb1.out.trans (hb2.mono (by omega)))
        obtain ⟨f0, f1, f2⟩ := Hbox.out.below Hb2.out (by omega)
        clear hb2
        cases ok
        · have Hf : Hid (vT la lb t = none) := hide (by
            rw [Hv.out]; unfold vN
            rw [Hvx.out, Hvk.out, hvu]; simp)
          clear hvu
          go_wp2_with fail
          go_ret2
          exact ⟨0, false, rfl, Hf.out, Hbx.out.trans (Hb2.out.mono (by omega))⟩
        · obtain ⟨y1, y2⟩ := Hbd.out y hvu
          have Hf0 : Hid (vT la lb t = vIn (vOp 12 x y)) := hide (by
            rw [Hv.out]; unfold vN
            rw [Hvx.out, Hvk.out, hvu]; simp)
          clear hvu Hvk Hbd Hcall
          have Hop : Hid (vOp 12 x y = x + y) := hide (by simp [vOp])
          by_cases z1 : -1000 ≤ x + y
          · have z1b : decide (-1000 ≤ x + y) = true := by simp; omega
            by_cases z2 : x + y ≤ 1000
            · have z2b : decide (x + y ≤ 1000) = true := by simp; omega
              have Hin : Hid (vT la lb t = some (x + y)) := hide (by rw [Hf0.out, Hop.out]; unfold vIn; rw [if_pos ⟨z1, z2⟩])
              go_wp2_with fail
              go_ret2
              exact ⟨_, true, rfl, Hin.out, Hbx.out.trans (Hb2.out.mono (by omega))⟩
            · have z2b : decide (x + y ≤ 1000) = false := by simp; omega
              have Hin : Hid (vT la lb t = none) := hide (by rw [Hf0.out, Hop.out]; unfold vIn; rw [if_neg (fun h => z2 h.2)])
              go_wp2_with fail
              go_ret2
              exact ⟨_, false, rfl, Hin.out, Hbx.out.trans (Hb2.out.mono (by omega))⟩
          · have z1b : decide (-1000 ≤ x + y) = false := by simp; omega
            have Hin : Hid (vT la lb t = none) := hide (by rw [Hf0.out, Hop.out]; unfold vIn; rw [if_neg (fun h => z1 h.1)])
            go_wp2_with fail
            go_ret2
            exact ⟨_, false, rfl, Hin.out, Hbx.out.trans (Hb2.out.mono (by omega))⟩
    · have h9 : kidsOf 13 = 2 := by decide
      have hlN : len = 2 := by omega
      subst hlN
      clear h9
      obtain ⟨b, off, u, op2, n2, A2, l2, c2, rfl, hce, hvk, hsu, hcall⟩ := Hkid.out 0 _ (by omega) (Below.refl _ _)
      obtain ⟨c0, c1, cs⟩ := hce
      rw [Nat.zero_mul, Nat.add_zero] at c0 c1 cs
      have Hbd := hide (fun x => vT_bd Ha.out Hb0.out u x hsu)
      have Hcall := hide hcall
      have Hvk := hide hvk
      clear hsu hcall hvk
      go_enter Tryz.func110, Tryz.ntmps110
      go_wp2_with fail
      clear c0 c1 cs f0 f1 f2
      refine Hcall.out.mono ?_
      rintro e w1 ⟨x, ok, rfl, hvu, hb1⟩
      have hz1 := hb1.size
      have Hb1 := hide hb1
      obtain ⟨f0, f1, f2⟩ := Hbox.out.below hb1 (by omega)
      clear hb1
      cases ok
      · have Hf : Hid (vT la lb t = none) := hide (by
          rw [Hv.out]; unfold vN
          rw [Hvk.out, hvu]; rfl)
        clear hvu
        go_wp2_with fail
        go_ret2
        exact ⟨0, false, rfl, Hf.out, Hbx.out.trans (Hb1.out.mono (by omega))⟩
      · obtain ⟨x1, x2⟩ := Hbd.out x hvu
        have Hvx : Hid ((vK la lb t.kids).getD 0 none = some x) := hide (by rw [Hvk.out, hvu]; rfl)
        clear hvu Hvk Hbd Hcall
        obtain ⟨b', off', u1, op3, n3, A3, l3, c3, e', hce, hvk, hsu, hcall⟩ := Hkid.out 1 w1 (by omega) Hb1.out
        injection e' with e'
        injection e' with e1 e2
        subst e1; subst e2
        obtain ⟨c0, c1, cs⟩ := hce
        rw [Nat.one_mul] at c0 c1 cs
        have Hbd := hide (fun x => vT_bd Ha.out Hb0.out u1 x hsu)
        have Hcall := hide hcall
        have Hvk := hide hvk
        clear hsu hcall hvk
        go_wp2_with fail
        clear c0 c1 cs f0 f1 f2
        refine Hcall.out.mono ?_
        rintro e w2 ⟨y, ok, rfl, hvu, hb2⟩
        have hz2 := hb2.size
        have Hb2 := hide (Hb1.out.trans (hb2.mono (by omega)))
        obtain ⟨f0, f1, f2⟩ := Hbox.out.below Hb2.out (by omega)
        clear hb2
        cases ok
        · have Hf : Hid (vT la lb t = none) := hide (by
            rw [Hv.out]; unfold vN
            rw [Hvx.out, Hvk.out, hvu]; simp)
          clear hvu
          go_wp2_with fail
          go_ret2
          exact ⟨0, false, rfl, Hf.out, Hbx.out.trans (Hb2.out.mono (by omega))⟩
        · obtain ⟨y1, y2⟩ := Hbd.out y hvu
          have Hf0 : Hid (vT la lb t = vIn (vOp 13 x y)) := hide (by
            rw [Hv.out]; unfold vN
            rw [Hvx.out, Hvk.out, hvu]; simp)
          clear hvu Hvk Hbd Hcall
          have Hop : Hid (vOp 13 x y = x - y) := hide (by simp [vOp])
          by_cases z1 : -1000 ≤ x - y
          · have z1b : decide (-1000 ≤ x - y) = true := by simp; omega
            by_cases z2 : x - y ≤ 1000
            · have z2b : decide (x - y ≤ 1000) = true := by simp; omega
              have Hin : Hid (vT la lb t = some (x - y)) := hide (by rw [Hf0.out, Hop.out]; unfold vIn; rw [if_pos ⟨z1, z2⟩])
              go_wp2_with fail
              go_ret2
              exact ⟨_, true, rfl, Hin.out, Hbx.out.trans (Hb2.out.mono (by omega))⟩
            · have z2b : decide (x - y ≤ 1000) = false := by simp; omega
              have Hin : Hid (vT la lb t = none) := hide (by rw [Hf0.out, Hop.out]; unfold vIn; rw [if_neg (fun h => z2 h.2)])
              go_wp2_with fail
              go_ret2
              exact ⟨_, false, rfl, Hin.out, Hbx.out.trans (Hb2.out.mono (by omega))⟩
          · have z1b : decide (-1000 ≤ x - y) = false := by simp; omega
            have Hin : Hid (vT la lb t = none) := hide (by rw [Hf0.out, Hop.out]; unfold vIn; rw [if_neg (fun h => z1 h.1)])
            go_wp2_with fail
            go_ret2
            exact ⟨_, false, rfl, Hin.out, Hbx.out.trans (Hb2.out.mono (by omega))⟩
    · have h9 : kidsOf 14 = 2 := by decide
      have hlN : len = 2 := by omega
      subst hlN
      clear h9
      obtain ⟨b, off, u, op2, n2, A2, l2, c2, rfl, hce, hvk, hsu, hcall⟩ := Hkid.out 0 _ (by omega) (Below.refl _ _)
      obtain ⟨c0, c1, cs⟩ := hce
      rw [Nat.zero_mul, Nat.add_zero] at c0 c1 cs
      have Hbd := hide (fun x => vT_bd Ha.out Hb0.out u x hsu)
      have Hcall := hide hcall
      have Hvk := hide hvk
      clear hsu hcall hvk
      go_enter Tryz.func110, Tryz.ntmps110
      go_wp2_with fail
      clear c0 c1 cs f0 f1 f2
      refine Hcall.out.mono ?_
      rintro e w1 ⟨x, ok, rfl, hvu, hb1⟩
      have hz1 := hb1.size
      have Hb1 := hide hb1
      obtain ⟨f0, f1, f2⟩ := Hbox.out.below hb1 (by omega)
      clear hb1
      cases ok
      · have Hf : Hid (vT la lb t = none) := hide (by
          rw [Hv.out]; unfold vN
          rw [Hvk.out, hvu]; rfl)
        clear hvu
        go_wp2_with fail
        go_ret2
        exact ⟨0, false, rfl, Hf.out, Hbx.out.trans (Hb1.out.mono (by omega))⟩
      · obtain ⟨x1, x2⟩ := Hbd.out x hvu
        have Hvx : Hid ((vK la lb t.kids).getD 0 none = some x) := hide (by rw [Hvk.out, hvu]; rfl)
        clear hvu Hvk Hbd Hcall
        obtain ⟨b', off', u1, op3, n3, A3, l3, c3, e', hce, hvk, hsu, hcall⟩ := Hkid.out 1 w1 (by omega) Hb1.out
        injection e' with e'
        injection e' with e1 e2
        subst e1; subst e2
        obtain ⟨c0, c1, cs⟩ := hce
        rw [Nat.one_mul] at c0 c1 cs
        have Hbd := hide (fun x => vT_bd Ha.out Hb0.out u1 x hsu)
        have Hcall := hide hcall
        have Hvk := hide hvk
        clear hsu hcall hvk
        go_wp2_with fail
        clear c0 c1 cs f0 f1 f2
        refine Hcall.out.mono ?_
        rintro e w2 ⟨y, ok, rfl, hvu, hb2⟩
        have hz2 := hb2.size
        have Hb2 := hide (Hb1.out.trans (hb2.mono (by omega)))
        obtain ⟨f0, f1, f2⟩ := Hbox.out.below Hb2.out (by omega)
        clear hb2
        cases ok
        · have Hf : Hid (vT la lb t = none) := hide (by
            rw [Hv.out]; unfold vN
            rw [Hvx.out, Hvk.out, hvu]; simp)
          clear hvu
          go_wp2_with fail
          go_ret2
          exact ⟨0, false, rfl, Hf.out, Hbx.out.trans (Hb2.out.mono (by omega))⟩
        · obtain ⟨y1, y2⟩ := Hbd.out y hvu
          have Hf0 : Hid (vT la lb t = vIn (vOp 14 x y)) := hide (by
            rw [Hv.out]; unfold vN
            rw [Hvx.out, Hvk.out, hvu]; simp)
          clear hvu Hvk Hbd Hcall
          have Hop : Hid (vOp 14 x y = x * y) := hide (by simp [vOp])
          have hmu : -1002001 ≤ x * y ∧ x * y ≤ 1002001 := mul_bd x1 x2 y1 y2
          obtain ⟨mu1, mu2⟩ := hmu
          by_cases z1 : -1000 ≤ x * y
          · have z1b : decide (-1000 ≤ x * y) = true := decide_eq_true z1
            by_cases z2 : x * y ≤ 1000
            · have z2b : decide (x * y ≤ 1000) = true := decide_eq_true z2
              have Hin : Hid (vT la lb t = some (x * y)) := hide (by rw [Hf0.out, Hop.out]; unfold vIn; rw [if_pos ⟨z1, z2⟩])
              go_wp2_with fail
              go_ret2
              exact ⟨_, true, rfl, Hin.out, Hbx.out.trans (Hb2.out.mono (by omega))⟩
            · have z2b : decide (x * y ≤ 1000) = false := decide_eq_false z2
              have Hin : Hid (vT la lb t = none) := hide (by rw [Hf0.out, Hop.out]; unfold vIn; rw [if_neg (fun h => z2 h.2)])
              go_wp2_with fail
              go_ret2
              exact ⟨_, false, rfl, Hin.out, Hbx.out.trans (Hb2.out.mono (by omega))⟩
          · have z1b : decide (-1000 ≤ x * y) = false := decide_eq_false z1
            have Hin : Hid (vT la lb t = none) := hide (by rw [Hf0.out, Hop.out]; unfold vIn; rw [if_neg (fun h => z1 h.1)])
            go_wp2_with fail
            go_ret2
            exact ⟨_, false, rfl, Hin.out, Hbx.out.trans (Hb2.out.mono (by omega))⟩
    · have h9 : kidsOf 15 = 3 := by decide
      have hlN : len = 3 := by omega
      subst hlN
      clear h9
      obtain ⟨b, off, u, op2, n2, A2, l2, c2, rfl, hce, hvk, hsu, hcall⟩ := Hkid.out 0 _ (by omega) (Below.refl _ _)
      obtain ⟨c0, c1, cs⟩ := hce
      rw [Nat.zero_mul, Nat.add_zero] at c0 c1 cs
      have Hbd := hide (fun x => vT_bd Ha.out Hb0.out u x hsu)
      have Hcall := hide hcall
      have Hvk := hide hvk
      clear hsu hcall hvk
      go_enter Tryz.func110, Tryz.ntmps110
      go_wp2_with fail
      clear c0 c1 cs f0 f1 f2
      refine Hcall.out.mono ?_
      rintro e w1 ⟨x, ok, rfl, hvu, hb1⟩
      have hz1 := hb1.size
      have Hb1 := hide hb1
      obtain ⟨f0, f1, f2⟩ := Hbox.out.below hb1 (by omega)
      clear hb1
      cases ok
      · have Hf : Hid (vT la lb t = none) := hide (by
          rw [Hv.out]; unfold vN
          rw [Hvk.out, hvu]; rfl)
        clear hvu
        go_wp2_with fail
        go_ret2
        exact ⟨0, false, rfl, Hf.out, Hbx.out.trans (Hb1.out.mono (by omega))⟩
      · obtain ⟨x1, x2⟩ := Hbd.out x hvu
        have Hvx : Hid ((vK la lb t.kids).getD 0 none = some x) := hide (by rw [Hvk.out, hvu]; rfl)
        clear hvu Hvk Hbd Hcall
        by_cases hx0 : x = 0
        · have hxb : (x == 0) = true := by simp [hx0]
          obtain ⟨b', off', u1, op3, n3, A3, l3, c3, e', hce, hvk, hsu, hcall⟩ := Hkid.out 2 w1 (by omega) Hb1.out
          injection e' with e'
          injection e' with e1 e2
          subst e1; subst e2
          obtain ⟨c0, c1, cs⟩ := hce
          have Hcall := hide hcall
          have Hvk := hide hvk
          clear hsu hcall hvk
          go_wp2_with fail
          clear c0 c1 cs f0 f1 f2
          refine Hcall.out.mono ?_
          rintro e w2 ⟨y, ok, rfl, hvu, hb2⟩
          have Hb2 := hide (Hb1.out.trans (hb2.mono (by omega)))
          have Hf : Hid (vT la lb t = if ok = true then some y else none) := hide (by
            rw [Hv.out]; unfold vN
            rw [Hvx.out]
            simp [hx0]
            have := Hvk.out
            rw [hvu] at this
            simpa [List.getD] using this)
          clear hvu hb2 hx0
          go_wp2_with fail
          go_ret2
          exact ⟨y, ok, rfl, Hf.out, Hbx.out.trans (Hb2.out.mono (by omega))⟩
        · have hxb : (x == 0) = false := by simp [hx0]
          obtain ⟨b', off', u1, op3, n3, A3, l3, c3, e', hce, hvk, hsu, hcall⟩ := Hkid.out 1 w1 (by omega) Hb1.out
          injection e' with e'
          injection e' with e1 e2
          subst e1; subst e2
          obtain ⟨c0, c1, cs⟩ := hce
          rw [Nat.one_mul] at c0 c1 cs
          have Hbd := hide (fun x => vT_bd Ha.out Hb0.out u1 x hsu)
          have Hcall := hide hcall
          have Hvk := hide hvk
          clear hsu hcall hvk
          go_wp2_with fail
          clear c0 c1 cs f0 f1 f2
          refine Hcall.out.mono ?_
          rintro e w2 ⟨y, ok, rfl, hvu, hb2⟩
          have hz2 := hb2.size
          have Hb2 := hide (Hb1.out.trans (hb2.mono (by omega)))
          obtain ⟨f0, f1, f2⟩ := Hbox.out.below Hb2.out (by omega)
          clear hb2
          cases ok
          · have Hf : Hid (vT la lb t = none) := hide (by
              rw [Hv.out]; unfold vN
              rw [Hvx.out, Hvk.out, hvu]; simp [hx0])
            clear hvu
            go_wp2_with fail
            go_ret2
            exact ⟨0, false, rfl, Hf.out, Hbx.out.trans (Hb2.out.mono (by omega))⟩
          · obtain ⟨y1, y2⟩ := Hbd.out y hvu
            have Hf0 : Hid (vT la lb t = vIn (vOp 15 x y)) := hide (by
              rw [Hv.out]; unfold vN
              rw [Hvx.out, Hvk.out, hvu]; simp [hx0])
            clear hvu Hvk Hbd Hcall
            have Hop : Hid (vOp 15 x y = y) := hide (by simp [vOp])
            by_cases z1 : -1000 ≤ y
            · have z1b : decide (-1000 ≤ y) = true := by simp; omega
              by_cases z2 : y ≤ 1000
              · have z2b : decide (y ≤ 1000) = true := by simp; omega
                have Hin : Hid (vT la lb t = some (y)) := hide (by rw [Hf0.out, Hop.out]; unfold vIn; rw [if_pos ⟨z1, z2⟩])
                go_wp2_with fail
                go_ret2
                exact ⟨_, true, rfl, Hin.out, Hbx.out.trans (Hb2.out.mono (by omega))⟩
              · have z2b : decide (y ≤ 1000) = false := by simp; omega
                have Hin : Hid (vT la lb t = none) := hide (by rw [Hf0.out, Hop.out]; unfold vIn; rw [if_neg (fun h => z2 h.2)])
                go_wp2_with fail
                go_ret2
                exact ⟨_, false, rfl, Hin.out, Hbx.out.trans (Hb2.out.mono (by omega))⟩
            · exact absurd y1 z1
end Go.Proofs.YtbppdalfcldodaaGreat
namespace Go.Proofs.YtbppdalfcldodaaGreat
open Go.RowKit Ex
set_option linter.unusedSimpArgs false
set_option linter.unusedVariables false

def isSt (l : List Dom.V) (s : Int) : Bool := decide (0 ≤ s ∧ s < Dom.totL l)
def valP (v : Option Int) : Int × Int := match v with
  | some n => (n, 0)
  | none => (0, 6)
def valE (l : List Dom.V) (t : T) (now next : Int) : Int × Int :=
  if (sortE l t).2 = 0 then (if isSt l now = true ∧ isSt l next = true then valP (vT (Dom.valsL l now) (Dom.valsL l next) t) else (0, 1)) else (0, (sortE l t).2)
def trueE (l : List Dom.V) (t : T) (now next : Int) : Bool := ((valE l t now next).2 == 0) && ((sortE l t).1 == 1) && ((valE l t now next).1 == 1)
theorem mayGo_all' : ∀ (l : List Dom.V) (seen : List (List UInt8)), Dom.mayGo seen l = 0 → ∀ v ∈ l, v.may = 0
  | [], _, _, v, hv => by simp at hv
  | u :: r, seen, h, v, hv => by
    rw [Dom.mayGo] at h
    split at h
    · omega
    · split at h
      · rename_i h2; exact absurd h h2
      · rename_i h2
        rcases List.mem_cons.1 hv with rfl | hv
        · exact Decidable.byContradiction h2
        · exact mayGo_all' r _ h v hv
theorem may_each {l : List Dom.V} (h : Dom.mayL l = 0) : ∀ v ∈ l, v.may = 0 := by
  have hg : Dom.mayGo [] l = 0 := by
    unfold Dom.mayL at h
    split at h
    · rename_i h2; exact absurd h h2
    · rename_i h2; exact Decidable.byContradiction h2
  exact mayGo_all' l [] hg
theorem val_one {v : Dom.V} (h : v.may = 0) (s : Int) : -1000 ≤ v.lo + s % v.size ∧ v.lo + s % v.size ≤ 1000 := by
  unfold Dom.V.may Dom.mayOfV at h
  unfold Dom.V.size Dom.sizeOfV
  split at h
  · rename_i h1
    rw [if_pos h1]
    split at h
    · omega
    · omega
  · rename_i h1
    rw [if_neg h1]
    split at h
    · rename_i h2
      split at h
      · rename_i h3
        rw [if_pos ⟨h2, h3⟩]
        have := Dom.range_true h3
        have hp : 0 < v.hi - v.lo + 1 := by omega
        have h4 := Int.emod_nonneg s (show v.hi - v.lo + 1 ≠ 0 by omega)
        have h5 := Int.emod_lt_of_pos s hp
        omega
      · omega
    · omega
theorem vals_small : ∀ (l : List Dom.V) (s : Int), (∀ v ∈ l, v.may = 0) → Small (Dom.valsL l s)
  | [], s, _, x, hx => by simp [Dom.valsL] at hx
  | v :: r, s, h, x, hx => by
    rw [Dom.valsL] at hx
    rcases List.mem_cons.1 hx with rfl | hx
    · exact val_one (h v (by simp)) s
    · exact vals_small r _ (fun u hu => h u (by simp [hu])) x hx

set_option maxHeartbeats 4000000 in
theorem rval_any (B : Nat) (Av : Option Addr) (nv cv : Nat) (lv : List Dom.V) (d : Nat) (op n : Int) (A : Option Addr) (len cap : Nat) (t : T) (now next : Int) (w : World) (hnv : nv ≤ maxLen) (hnc : nv ≤ cv) (hcv : cv ≤ maxLen) (hB : B ≤ w.heap.size) (hre : RE w B d op n A len cap t) (hrv : Dom.RV w B Av nv lv) (hnm : ∀ v ∈ lv, v.nm.size ≤ maxLen) :
    Calls Tryz.prog 86 #[.slice Av nv cv, .agg #[.int .i64 op, .int .i64 n, .slice A len cap], .int .i64 now, .int .i64 next] w fun e w' => e = .returned (.tuple #[.int .i64 (valE lv t now next).1, .int .i64 (valE lv t now next).2]) ∧ Below w.heap.size w w' := by
  have hbx : Below w.heap.size w (w.alloc (.cells #[.int .i64 op, .int .i64 n, .slice A len cap] 25)) := (Below.refl _ _).alloc (Nat.le_refl _) _
  have Hre := hide (hre.below (hbx.mono hB))
  have Hrv := hide (hrv.below (hbx.mono hB))
  have Hnl := hide hrv.1
  have Hbox := hide (box_new w op n A len cap 25)
  have hz0 : w.heap.size + 1 ≤ (w.alloc (.cells #[.int .i64 op, .int .i64 n, .slice A len cap] 25)).heap.size := by simp
  have Hbx := hide hbx
  have Hnm := hide hnm
  clear hre hrv hbx hnm
  have Hs : Hid (valE lv t now next = if (sortE lv t).2 = 0 then (if isSt lv now = true ∧ isSt lv next = true then valP (vT (Dom.valsL lv now) (Dom.valsL lv next) t) else (0, 1)) else (0, (sortE lv t).2)) := hide rfl
  have Hok : Hid ((sortE lv t).2 = 0 → Dom.mayL lv = 0 ∧ mayE t = 0 ∧ (tyT lv t).2 = 0) := hide (fun h => by
    unfold sortE at h
    by_cases hm : Dom.mayL lv = 0
    · rw [if_pos hm] at h
      by_cases he : mayE t = 0
      · rw [if_pos he] at h; exact ⟨hm, he, h⟩
      · rw [if_neg he] at h; exact absurd h he
    · rw [if_neg hm] at h; exact absurd h hm)
  obtain ⟨f0, f1, f2⟩ := Hbox.out
  go_enter Tryz.func86, Tryz.ntmps86
  go_wp2_with fail
  clear f0 f1 f2
  generalize w.alloc (.cells #[.int .i64 op, .int .i64 n, .slice A len cap] 25) = W at *
  refine (rsort_any B Av nv cv lv d op n A len cap t W hnv hnc hcv (by omega) Hre.out Hrv.out Hnm.out).mono ?_
  rintro e w1 ⟨rfl, hb1⟩
  have hz1 := hb1.size
  have Hb1 := hide (Hbx.out.trans (hb1.mono (by omega)))
  have Hre1 := hide (Hre.out.below (hb1.mono (by omega)))
  have Hrv1 := hide (Hrv.out.below (hb1.mono (by omega)))
  have Hbox1 := hide (Hbox.out.below hb1 (by omega))
  clear hb1 Hre Hrv Hbox Hbx
  generalize sortE lv t = r at *
  obtain ⟨r1, r2⟩ := r
  simp only at Hs Hok ⊢
  by_cases h2 : r2 = 0
  · have h2b : (r2 != 0) = false := by simp [h2]
    rw [if_pos h2] at Hs
    obtain ⟨hml, hmt, hty⟩ := Hok.out h2
    have Hml := hide hml
    have Hsd := hide (may_sound hmt)
    have H3 : Hid (∀ i, rdT t 3 i = true → i < nv) := hide (fun i hi => by rw [← Hnl.out]; exact ty_reads lv t 3 i (.inl rfl) hty hi)
    have H4 : Hid (∀ i, rdT t 4 i = true → i < nv) := hide (fun i hi => by rw [← Hnl.out]; exact ty_reads lv t 4 i (.inr rfl) hty hi)
    have hn6 : nv ≤ 6 := by have := Dom.totL_len (Dom.mayL_zero hml).2; rw [Hnl.out] at this; exact this
    have Hsm := hide (fun s => vals_small lv s (may_each hml))
    clear h2 hml hmt hty Hok
    by_cases hs1 : 0 ≤ now ∧ now < Dom.totL lv
    · have Hi1 : Hid (isSt lv now = true) := hide (by unfold isSt; exact decide_eq_true hs1)
      go_wp2_with fail
      refine (Dom.rvals_good Av nv cv B lv now w1 hnc hcv (by omega) Hrv1.out Hnm.out Hml.out hs1.1 hs1.2).mono ?_
      rintro e w2 ⟨O1, c1, rfl, hown1, hb2⟩
      have hz2 := hb2.size
      have Hb2 := hide (Hb1.out.trans (hb2.mono (by omega)))
      have Hre2 := hide (Hre1.out.below (hb2.mono (by omega)))
      have Hrv2 := hide (Hrv1.out.below (hb2.mono (by omega)))
      have Hbox2 := hide (Hbox1.out.below hb2 (by omega))
      have Hr1 : Hid (RI w2 w2.heap.size O1 nv (Dom.valsL lv now)) := hide (own_ri (by exact hown1))
      clear hb2 hown1 Hb1 Hre1 Hrv1 Hbox1 hs1
      by_cases hs2 : 0 ≤ next ∧ next < Dom.totL lv
      · have Hi2 : Hid (isSt lv next = true) := hide (by unfold isSt; exact decide_eq_true hs2)
        rw [if_pos ⟨Hi1.out, Hi2.out⟩] at Hs
        go_wp2_with fail
        refine (Dom.rvals_good Av nv cv B lv next w2 hnc hcv (by omega) Hrv2.out Hnm.out Hml.out hs2.1 hs2.2).mono ?_
        rintro e w3 ⟨O2, c2, rfl, hown2, hb3⟩
        have hz3 := hb3.size
        have Hb3 := hide (Hb2.out.trans (hb3.mono (by omega)))
        have Hre3 := hide (RE.more (B' := w3.heap.size) (by omega) _ _ _ _ _ _ _ (Hre2.out.below (hb3.mono (by omega))))
        obtain ⟨f0, f1, f2⟩ := Hbox2.out.below hb3 (by omega)
        have Hr2 : Hid (RI w3 w3.heap.size O2 nv (Dom.valsL lv next)) := hide (own_ri (by exact hown2))
        have Hr13 := hide ((Hr1.out.below hb3).more (B' := w3.heap.size) (by omega))
        clear hb3 hown2 Hb2 Hre2 Hrv2 Hbox2 hs2 Hr1
        go_wp2_with fail
        refine (rvalue_any w3.heap.size O1 nv c1 (Dom.valsL lv now) O2 nv c2 (Dom.valsL lv next) (by omega) (by omega) (Hsm.out now) (Hsm.out next) d op n A len cap t w3 (Nat.le_refl _) Hre3.out Hsd.out Hr13.out Hr2.out H3.out H4.out).mono ?_
        rintro e w4 ⟨x, ok, rfl, hvx, hb4⟩
        have Hb4 := hide (Hb3.out.trans (hb4.mono (by omega)))
        rw [hvx] at Hs
        clear hb4 f0 f1 f2 hvx
        cases ok
        · go_wp2_with fail
          go_ret2
          exact ⟨ret_pair Hs.out, Hb4.out⟩
        · go_wp2_with fail
          go_ret2
          exact ⟨ret_pair Hs.out, Hb4.out⟩
      · rw [if_neg (fun h => hs2 (by simpa [isSt] using h.2))] at Hs
        go_wp2_with fail
        refine (Dom.rvals_bad Av nv cv B lv next w2 hnv hnc hcv (by omega) Hrv2.out Hnm.out (.inr (by omega))).mono ?_
        rintro e w3 ⟨rfl, hb3⟩
        have Hb3 := hide (Hb2.out.trans (hb3.mono (by omega)))
        clear hb3
        go_wp2_with fail
        go_ret2
        exact ⟨ret_pair Hs.out, Hb3.out⟩
    · rw [if_neg (fun h => hs1 (by simpa [isSt] using h.1))] at Hs
      go_wp2_with fail
      refine (Dom.rvals_bad Av nv cv B lv now w1 hnv hnc hcv (by omega) Hrv1.out Hnm.out (.inr (by omega))).mono ?_
      rintro e w2 ⟨rfl, hb2⟩
      have hz2 := hb2.size
      have Hb2 := hide (Hb1.out.trans (hb2.mono (by omega)))
      have Hrv2 := hide (Hrv1.out.below (hb2.mono (by omega)))
      clear hb2
      by_cases hs2 : 0 ≤ next ∧ next < Dom.totL lv
      · go_wp2_with fail
        refine (Dom.rvals_good Av nv cv B lv next w2 hnc hcv (by omega) Hrv2.out Hnm.out Hml.out hs2.1 hs2.2).mono ?_
        rintro e w3 ⟨O2, c2, rfl, hown2, hb3⟩
        have Hb3 := hide (Hb2.out.trans (hb3.mono (by omega)))
        clear hb3 hown2
        go_wp2_with fail
        go_ret2
        exact ⟨ret_pair Hs.out, Hb3.out⟩
      · go_wp2_with fail
        refine (Dom.rvals_bad Av nv cv B lv next w2 hnv hnc hcv (by omega) Hrv2.out Hnm.out (.inr (by omega))).mono ?_
        rintro e w3 ⟨rfl, hb3⟩
        have Hb3 := hide (Hb2.out.trans (hb3.mono (by omega)))
        clear hb3
        go_wp2_with fail
        go_ret2
        exact ⟨ret_pair Hs.out, Hb3.out⟩
  · have h2b : (r2 != 0) = true := by simp [h2]
    rw [if_neg h2] at Hs
    clear h2
    go_wp2_with fail
    go_ret2
    exact ⟨ret_pair Hs.out, Hb1.out⟩

set_option maxHeartbeats 1000000 in
theorem rtrue_any (B : Nat) (Av : Option Addr) (nv cv : Nat) (lv : List Dom.V) (d : Nat) (op n : Int) (A : Option Addr) (len cap : Nat) (t : T) (now next : Int) (w : World) (hnv : nv ≤ maxLen) (hnc : nv ≤ cv) (hcv : cv ≤ maxLen) (hB : B ≤ w.heap.size) (hre : RE w B d op n A len cap t) (hrv : Dom.RV w B Av nv lv) (hnm : ∀ v ∈ lv, v.nm.size ≤ maxLen) :
    Calls Tryz.prog 51 #[.slice Av nv cv, .agg #[.int .i64 op, .int .i64 n, .slice A len cap], .int .i64 now, .int .i64 next] w fun e w' => e = .returned (.bool (trueE lv t now next)) ∧ Below w.heap.size w w' := by
  have hbx : Below w.heap.size w (w.alloc (.cells #[.int .i64 op, .int .i64 n, .slice A len cap] 25)) := (Below.refl _ _).alloc (Nat.le_refl _) _
  have Hre := hide (hre.below (hbx.mono hB))
  have Hrv := hide (hrv.below (hbx.mono hB))
  have Hbox := hide (box_new w op n A len cap 25)
  have hz0 : w.heap.size + 1 ≤ (w.alloc (.cells #[.int .i64 op, .int .i64 n, .slice A len cap] 25)).heap.size := by simp
  have Hbx := hide hbx
  clear hre hrv hbx
  have Ht : Hid (trueE lv t now next = (((valE lv t now next).2 == 0) && ((sortE lv t).1 == 1) && ((valE lv t now next).1 == 1))) := hide rfl
  obtain ⟨f0, f1, f2⟩ := Hbox.out
  go_enter Tryz.func51, Tryz.ntmps51
  go_wp2_with fail
  clear f0 f1 f2
  generalize w.alloc (.cells #[.int .i64 op, .int .i64 n, .slice A len cap] 25) = W at *
  refine (rsort_any B Av nv cv lv d op n A len cap t W hnv hnc hcv (by omega) Hre.out Hrv.out hnm).mono ?_
  rintro e w1 ⟨rfl, hb1⟩
  have hz1 := hb1.size
  have Hb1 := hide (Hbx.out.trans (hb1.mono (by omega)))
  have Hre1 := hide (Hre.out.below (hb1.mono (by omega)))
  have Hrv1 := hide (Hrv.out.below (hb1.mono (by omega)))
  obtain ⟨f0, f1, f2⟩ := Hbox.out.below hb1 (by omega)
  clear hb1 Hre Hrv Hbox Hbx
  go_wp2_with fail
  refine (rval_any B Av nv cv lv d op n A len cap t now next w1 hnv hnc hcv (by omega) Hre1.out Hrv1.out hnm).mono ?_
  rintro e w2 ⟨rfl, hb2⟩
  have Hb2 := hide (Hb1.out.trans (hb2.mono (by omega)))
  clear hb2 f0 f1 f2
  generalize valE lv t now next = r at *
  generalize (sortE lv t).1 = s at *
  obtain ⟨r1, r2⟩ := r
  simp only at Ht ⊢
  cases q1 : r2 == 0
  · have Hf : Hid (trueE lv t now next = false) := hide (by rw [Ht.out, q1]; rfl)
    go_wp2_with fail
    go_ret
    exact ⟨ret_bool Hf.out.symm, Hb2.out⟩
  · cases q2 : s == 1
    · have Hf : Hid (trueE lv t now next = false) := hide (by rw [Ht.out, q1, q2]; rfl)
      go_wp2_with fail
      go_ret
      exact ⟨ret_bool Hf.out.symm, Hb2.out⟩
    · have Hf : Hid (trueE lv t now next = (r1 == 1)) := hide (by rw [Ht.out, q1, q2]; rfl)
      go_wp2_with fail
      go_ret
      exact ⟨ret_bool Hf.out.symm, Hb2.out⟩
end Go.Proofs.YtbppdalfcldodaaGreat
