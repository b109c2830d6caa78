/- The walk of the program's find: the value of an expression that has a sort. -/
import Derived.Test.YtkjclofkfmkbdaaMFold
import Derived.Lib.QuietBelow
import Derived.BigQuiet
namespace Go.Proofs.Ytkjclofkfmkbdaa
open Go.RowKit Ex
open Go.Sort (grow)
set_option linter.unusedSimpArgs false
set_option linter.unusedVariables false

section
variable {a b : List Int} {op n x y : Int} {vs : List (Option Int)}
theorem vN_none (h : 5 ≤ op) (h0 : vs.getD 0 none = none) : vN a b op n vs = none := by
  unfold vN; rw [if_neg (by omega), if_neg (by omega), if_neg (by omega), h0]
theorem vN_dec {r : Int} (h : 5 ≤ op) (h0 : vs.getD 0 none = some x) (hd : decO op x = some r) : vN a b op n vs = some r := by
  unfold vN; rw [if_neg (by omega), if_neg (by omega), if_neg (by omega), h0]
  unfold decO at hd
  simp only
  by_cases h5 : op = 5
  · rw [if_pos h5] at hd ⊢; exact hd
  · rw [if_neg h5] at hd ⊢
    by_cases h6 : op = 6 ∧ x = 0
    · rw [if_pos h6] at hd ⊢; exact hd
    · rw [if_neg h6] at hd ⊢
      by_cases h7 : (op = 7 ∧ x = 1) ∨ (op = 8 ∧ x = 0)
      · rw [if_pos h7] at hd ⊢; exact hd
      · rw [if_neg h7] at hd; cases hd
theorem decO_none (hd : decO op x = none) : op ≠ 5 ∧ ¬ (op = 6 ∧ x = 0) ∧ ¬ ((op = 7 ∧ x = 1) ∨ (op = 8 ∧ x = 0)) := by
  unfold decO at hd
  by_cases h5 : op = 5
  · rw [if_pos h5] at hd; cases hd
  · rw [if_neg h5] at hd
    by_cases h6 : op = 6 ∧ x = 0
    · rw [if_pos h6] at hd; cases hd
    · rw [if_neg h6] at hd
      by_cases h7 : (op = 7 ∧ x = 1) ∨ (op = 8 ∧ x = 0)
      · rw [if_pos h7] at hd; cases hd
      · exact ⟨h5, h6, h7⟩
theorem vN_two (h : 5 ≤ op) (h15 : op ≠ 15) (h0 : vs.getD 0 none = some x) (hd : decO op x = none) : vN a b op n vs = match vs.getD 1 none with
    | none => none
    | some y => vIn (vOp op x y) := by
  obtain ⟨h5, h6, h7⟩ := decO_none hd
  unfold vN; rw [if_neg (by omega), if_neg (by omega), if_neg (by omega), h0]
  simp only
  rw [if_neg h5, if_neg h6, if_neg h7, if_neg (by omega)]
  cases vs.getD 1 none <;> rfl
theorem vN_if0 (h0 : vs.getD 0 none = some 0) : vN a b 15 n vs = vs.getD 2 none := by
  unfold vN; rw [if_neg (by omega), if_neg (by omega), if_neg (by omega), h0]
  simp
theorem vN_if1 (h0 : vs.getD 0 none = some 1) (hb : ∀ y, vs.getD 1 none = some y → -1000 ≤ y ∧ y ≤ 1000) : vN a b 15 n vs = vs.getD 1 none := by
  unfold vN; rw [if_neg (by omega), if_neg (by omega), if_neg (by omega), h0]
  simp only
  rw [if_neg (by omega), if_neg (by omega), if_neg (by omega), if_neg (by omega)]
  cases h1 : vs.getD 1 none with
  | none => rfl
  | some y =>
    have := hb y h1
    show vIn (vOp 15 1 y) = some y
    unfold vOp vIn
    simp [this]
end
theorem fine_bd {s x : Int} {v : Option Int} (h : Fine s v) (hx : v = some x) : -1000 ≤ x ∧ x ≤ 1000 := by
  obtain ⟨h1, h2⟩ := h.2 x hx
  rcases h.1 with e | e
  · rcases h1 e with h | h <;> omega
  · exact h2 e
theorem ty_if {l : List Dom.V} {n : Int} {t u : T} (ho : t.op = 15) (h : (tyT l t).2 = 0) (hu : t.kids[0]? = some u) : (tyT l u).1 = 1 := by
  obtain ⟨op, n, ks⟩ := t
  simp only [T.op, T.kids] at ho hu
  subst ho
  have hk := ty_kids h
  cases ks with
  | nil => simp at hu
  | cons a r =>
    simp at hu; subst hu
    have ha : (tyT l a).2 = 0 := tyK_mem hk.1 a (by simp)
    rw [hk.2, tyK, if_pos ha] at h
    unfold tyN at h
    simp at h
    split at h
    · rename_i h1; exact h1.1
    · cases h
def Two2 (w : World) (b : Nat) (u v : Value) : Prop := w.cell? ⟨b, 0, none⟩ = some u ∧ w.cell? ⟨b, 1, none⟩ = some v
theorem two2_new (w : World) (u v : Value) (hu : u.oneCell' = true) (hv : v.oneCell' = true) (t : TypeId) : Two2 (w.alloc (.cells #[u, v] t)) w.heap.size u v := by
  unfold Two2
  simp [go_sem]
theorem Two2.below {w w' : World} {B b : Nat} {u v : Value} (h : Two2 w b u v) (hb : Below B w w') (hB : b < B) : Two2 w' b u v :=
  ⟨(hb.cell (by exact hB)).trans h.1, (hb.cell (by exact hB)).trans h.2⟩

set_option maxRecDepth 100000 in
set_option maxHeartbeats 4000000 in
theorem dfind_any (B : Nat) (Aa : Option Addr) (na ca : Nat) (la : List Int) (Ab : Option Addr) (nb cb : Nat) (lb : List Int) (lv : List Dom.V) (hna : na = lv.length) (hnb : nb = lv.length) (hl6 : lv.length ≤ 1000) (hva : ∀ n u, lv[n]? = some u → Fine u.srt (some (la.getD n 0))) (hvb : ∀ n u, lv[n]? = some u → Fine u.srt (some (lb.getD n 0))) :
    ∀ (d : Nat) (op n : Int) (A : Option Addr) (len cap : Nat) (t : T) (w : World), B ≤ w.heap.size → RE w B d op n A len cap t → sound t = true → (tyT lv t).2 = 0 → RI w B Aa na la → RI w B Ab nb lb →
    Calls Try.prog 33 #[.agg #[.slice Aa na ca, .slice Ab nb cb], .agg #[.int .i64 op, .int .i64 n, .slice A len cap]] w fun e w' => e = .returned (.tuple #[.int .i64 (valP (vT la lb t)).1, .int .i64 (valP (vT la lb t)).2]) ∧ Below w.heap.size w w' := by
  have Hva := hide hva
  have Hvb := hide hvb
  have Hna := hide hna
  have Hnb := hide hnb
  have ha1 : na ≤ 1000 := by omega
  have hb1' : nb ≤ 1000 := by omega
  clear hva hvb hna hnb hl6
  intro d
  induction d with
  | zero => intro op n A len cap t w hB h; exact absurd h id
  | succ d ih =>
    intro op n A len cap t w hB hre hsd hty hria hrib
    have IH := hide ih; clear ih
    obtain ⟨ho1, ho2, hl3⟩ := sound_op hsd
    have hle := sound_len15' hsd
    have Hv : Hid (vT la lb t = vN la lb op n (vK la lb t.kids)) := hide (by
      have e := hre.eq_mk
      rw [vT_eq, show t.op = op by rw [e]; rfl, show t.n = n by rw [e]; rfl])
    obtain ⟨hx1, hx2, hlen, hcap, hmx, _⟩ := id hre
    rw [hx1] at ho1 ho2 hle
    rw [hlen] at hl3 hle
    unfold maxLen at hmx
    have Hn : Hid ((op = 3 ∨ op = 4) → 0 ≤ n ∧ n < lv.length) := hide (fun ho => by
      have h := sound_n (op := op) hsd ho hx1
      rw [hx2] at h
      have hn0 : (n.toNat : Int) = n := by omega
      have := ty_reads lv t op n.toNat ho hty (by rw [rdT_eq, hx1, hx2]; simp [hn0])
      omega)
    have Hop : Hid (t.op = op) := hide hx1
    have hbx : Below w.heap.size w ((w.alloc (.cells #[.slice Aa na ca, .slice Ab nb cb] 56)).alloc (.cells #[.int .i64 op, .int .i64 n, .slice A len cap] 25)) := ((Below.refl _ _).alloc (Nat.le_refl _) _).alloc (by simp) _
    have e1 : (w.alloc (.cells #[.slice Aa na ca, .slice Ab nb cb] 56)).heap.size = w.heap.size + 1 := by simp
    have hbox := box_new (w.alloc (.cells #[.slice Aa na ca, .slice Ab nb cb] 56)) op n A len cap 25
    rw [e1] at hbox
    have htwo := (two2_new w (.slice Aa na ca) (.slice Ab nb cb) rfl rfl 56).below ((Below.refl (w.heap.size + 1) _).alloc (by omega) (.cells #[.int .i64 op, .int .i64 n, .slice A len cap] 25)) (by omega)
    have hz0 : w.heap.size + 2 ≤ ((w.alloc (.cells #[.slice Aa na ca, .slice Ab nb cb] 56)).alloc (.cells #[.int .i64 op, .int .i64 n, .slice A len cap] 25)).heap.size := by simp
    have Hre := hide (hre.below (hbx.mono hB))
    have Hria := hide (hria.below (hbx.mono hB))
    have Hrib := hide (hrib.below (hbx.mono hB))
    have Hbox := hide hbox
    have Htwo := hide htwo
    have Hbx := hide hbx
    have Hsd := hide hsd
    have Hty := hide hty
    clear hre hsd hty hria hrib hx1 hx2 hbx hlen e1 hbox htwo
    obtain ⟨f0, f1, f2⟩ := Hbox.out
    obtain ⟨t0, t1⟩ := Htwo.out
    by_cases h12 : op = 1 ∨ op = 2
    · have Hf : Hid (valP (vT la lb t) = (n, 0)) := hide (by rw [Hv.out]; unfold vN; rw [if_pos h12]; rfl)
      rcases h12 with rfl | rfl
      all_goals
        go_enter Try.func33, Try.ntmps33
        go_wp2_with fail
        go_ret2
        exact ⟨ret_pair Hf.out, Hbx.out⟩
    · by_cases h3 : op = 3
      · obtain ⟨n0, n6⟩ := Hn.out (.inl h3)
        obtain ⟨q, rfl⟩ := Int.eq_ofNat_of_zero_le n0
        have hq : q < na := by rw [Hna.out]; omega
        have hq' : (q : Int) < (na : Int) := by omega
        subst h3
        obtain ⟨bb, bo, x, rfl, hbb, hx, cx⟩ := Hria.out.at_ hq
        have Hf : Hid (valP (vT la lb t) = (x, 0)) := hide (by rw [Hv.out]; simp [vN, List.getD, hx, valP])
        clear hx h12
        go_enter Try.func33, Try.ntmps33
        go_wp2_with fail
        go_ret2
        exact ⟨ret_pair Hf.out, Hbx.out⟩
      · by_cases h4 : op = 4
        · obtain ⟨n0, n6⟩ := Hn.out (.inr h4)
          obtain ⟨q, rfl⟩ := Int.eq_ofNat_of_zero_le n0
          have hq : q < nb := by rw [Hnb.out]; omega
          have hq' : (q : Int) < (nb : Int) := by omega
          subst h4
          obtain ⟨bb, bo, x, rfl, hbb, hx, cx⟩ := Hrib.out.at_ hq
          have Hf : Hid (valP (vT la lb t) = (x, 0)) := hide (by rw [Hv.out]; simp [vN, List.getD, hx, valP])
          clear hx h12 h3
          go_enter Try.func33, Try.ntmps33
          go_wp2_with fail
          go_ret2
          exact ⟨ret_pair Hf.out, Hbx.out⟩
        · have h5 : 5 ≤ op := by omega
          have b1 : (op == 1) = false := by simp; omega
          have b2 : (op == 2) = false := by simp; omega
          have b3 : (op == 3) = false := by simp; omega
          have b4 : (op == 4) = false := by simp; omega
          have hk1 : 1 ≤ len := by unfold kidsOf at hle; revert hle; (repeat' split) <;> omega
          have Hk2 : Hid (6 ≤ op → 2 ≤ len) := hide (fun h6 => by unfold kidsOf at hle; revert hle; (repeat' split) <;> omega)
          have Hk3 : Hid (op = 15 → len = 3) := hide (fun h6 => by unfold kidsOf at hle; revert hle; (repeat' split) <;> omega)
          clear h12 h3 h4 Hn hle ho1 ho2 hl3
          go_enter Try.func33, Try.ntmps33
          go_wp2_with fail
          clear f0 f1 f2 t0 t1
          generalize (w.alloc (.cells #[.slice Aa na ca, .slice Ab nb cb] 56)).alloc (.cells #[.int .i64 op, .int .i64 n, .slice A len cap] 25) = W at *
          have Hkid : Hid (∀ (k : Nat), k < len → ∃ b off u op2 n2 A2 l2 c2, A = some ⟨b, off, none⟩ ∧ b < W.heap.size ∧ CellE W b (off + k * 3) op2 n2 A2 l2 c2 ∧ (vK la lb t.kids).getD k none = vT la lb u ∧ t.kids[k]? = some u ∧ Fine (tyT lv u).1 (vT la lb u) ∧ ∀ w', Below W.heap.size W w' → Calls Try.prog 33 #[.agg #[.slice Aa na ca, .slice Ab nb cb], .agg #[.int .i64 op2, .int .i64 n2, .slice A2 l2 c2]] w' fun e w'' => e = .returned (.tuple #[.int .i64 (valP (vT la lb u)).1, .int .i64 (valP (vT la lb u)).2]) ∧ Below w'.heap.size w' w'') := hide (fun k hk => by
            obtain ⟨b, off, u, op2, n2, A2, l2, c2, e, hbB, hku, hce, hre2⟩ := Hre.out.at_ hk
            have hsu := soundK_at _ k u (sound_kids Hsd.out) hku
            have htu : (tyT lv u).2 = 0 := by
              have h1 := Hty.out
              have h2 := List.mem_of_getElem? hku
              cases t with
              | mk o m ks => exact tyK_mem (ty_kids h1).1 u h2
            exact ⟨b, off, u, op2, n2, A2, l2, c2, e, by omega, hce, vK_at la lb t.kids k u hku, hku, fine_gen lv la lb Hva.out Hvb.out u hsu htu, fun w' hb => IH.out op2 n2 A2 l2 c2 u w' (by have := hb.size; omega) (hre2.below (hb.mono (by omega))) hsu htu (Hria.out.below (hb.mono (by omega))) (Hrib.out.below (hb.mono (by omega)))⟩)
          have Hif : Hid (∀ u, op = 15 → t.kids[0]? = some u → (tyT lv u).1 = 1) := hide (fun u ho hu => ty_if (n := n) (by rw [Hop.out]; exact ho) Hty.out hu)
          clear IH Hsd Hty Hre Hria Hrib Hop Hva Hvb
          obtain ⟨b, off, u, op2, n2, A2, l2, c2, rfl, hbW, ⟨c0, c1, cs⟩, hvk, hku, hfu, hcall⟩ := Hkid.out 0 (by omega)
          rw [Nat.zero_mul, Nat.add_zero] at c0 c1 cs
          have Hvk := hide hvk
          have Hfu := hide hfu
          have Hcall : Hid (∀ (dd : Nat) (os : Array Obj), Calls Try.prog 33 #[.agg #[.slice Aa na ca, .slice Ab nb cb], .agg #[.int .i64 op2, .int .i64 n2, .slice A2 l2 c2]] (grow (redrawn W dd) os) fun e w' => e = .returned (.tuple #[.int .i64 (valP (vT la lb u)).1, .int .i64 (valP (vT la lb u)).2]) ∧ Below (grow (redrawn W dd) os).heap.size (grow (redrawn W dd) os) w') := hide (fun dd os => hcall _ (below_regrown W dd os))
          have Hsu : Hid (op = 15 → (tyT lv u).1 = 1) := hide (fun ho => Hif.out u ho hku)
          clear hvk hfu hcall hku Hif
          obtain ⟨_, _, f2⟩ := Hbox.out
          obtain ⟨t0, t1⟩ := Htwo.out
          have C0 := cell_regrown c0
          have C1 := cell_regrown c1
          have C2 := cell_regrown cs
          have F2 := cell_regrown f2
          have T0 := cell_regrown t0
          have T1 := cell_regrown t1
          clear c0 c1 cs f2 t0 t1
          have hk1' : (0 : Int) < (len : Int) := by omega
          have hk1n : 0 < len := by omega
          refine wp_region_quiet_below (by kernel_rfl) (by kernel_rfl) ?_
          repeat (go_big_quiet_step ((go_at_call 33; exact Calls.regrown_of (Hcall.out _ _))))
          refine wpQuiet_nil ?_
          intro w1 hw1
          obtain ⟨p, hp⟩ := hw1
          have hb1 : Below W.heap.size W w1 := by rw [hp]; exact below_regrown W p.d p.os
          clear hp C0 C1 C2 F2 T0 T1 Hcall
          have hz1 := hb1.size
          have Hb1 := hide hb1
          have Hbw := hide (Hbx.out.trans (hb1.mono (by omega)))
          have Hbox1 := hide (Hbox.out.below hb1 (by omega))
          have Htwo1 := hide (Htwo.out.below hb1 (by omega))
          clear hb1 Hbox Htwo Hbx hk1' hk1n
          rcases hvu : vT la lb u with _ | x
          · have Hf : Hid (valP (vT la lb t) = (0, 6)) := hide (by rw [Hv.out, vN_none h5 (by rw [Hvk.out, hvu])]; rfl)
            clear hvu Hvk
            simp only [valP]
            go_wp2_with fail
            go_ret2
            exact ⟨ret_pair Hf.out, Hbw.out⟩
          · obtain ⟨x1, x2⟩ := fine_bd Hfu.out hvu
            have Hv0 : Hid ((vK la lb t.kids).getD 0 none = some x) := hide (by rw [Hvk.out, hvu])
            have Hx01 : Hid (op = 15 → x = 0 ∨ x = 1) := hide (fun ho => (Hfu.out.2 x hvu).1 (Hsu.out ho))
            clear hvu Hvk Hfu Hsu
            simp only [valP]
            obtain ⟨f0, f1, f2⟩ := Hbox1.out
            rcases hd : decO op x with _ | r
            · have Hdec : Hid (Calls Try.prog 56 #[.int .i64 op, .int .i64 x] w1 fun e w' => e = .returned (.tuple #[.int .i64 0, .bool false]) ∧ w1 = w') := hide (by
                have := decided_any op x w1 x1 (by omega)
                rw [hd] at this; exact this)
              have hd3 := decO_none hd
              have h6 : 6 ≤ op := by omega
              have Hd := hide hd
              clear hd hd3
              have hl2 : 2 ≤ len := Hk2.out h6
              by_cases h15 : op = 15
              · subst h15
                obtain rfl : len = 3 := Hk3.out rfl
                obtain ⟨_, _, f2⟩ := Hbox1.out
                obtain ⟨t0, t1⟩ := Htwo1.out
                have F2 := cell_regrown f2
                have T0 := cell_regrown t0
                have T1 := cell_regrown t1
                clear t0 t1
                rcases Hx01.out rfl with rfl | rfl
                · obtain ⟨b', off', u1, op3, n3, A3, l3, c3, e', hbW', ⟨c0, c1, cs⟩, hvk, hku, hfu, hcall⟩ := Hkid.out 2 (by omega)
                  injection e' with e'
                  injection e' with e1 e2
                  subst e1; subst e2
                  have Hf : Hid (valP (vT la lb t) = valP (vT la lb u1)) := hide (by rw [Hv.out, vN_if0 Hv0.out, hvk])
                  have C0 := cell_regrown ((Hb1.out.cell (p := ⟨b, off + 2 * 3, none⟩) (by exact hbW)).trans c0)
                  have C1 := cell_regrown ((Hb1.out.cell (p := ⟨b, off + 2 * 3 + 1, none⟩) (by exact hbW)).trans c1)
                  have C2 := cell_regrown ((Hb1.out.cell (p := ⟨b, off + 2 * 3 + 2, none⟩) (by exact hbW)).trans cs)
                  have Hcall : Hid (∀ (dd : Nat) (os : Array Obj), Calls Try.prog 33 #[.agg #[.slice Aa na ca, .slice Ab nb cb], .agg #[.int .i64 op3, .int .i64 n3, .slice A3 l3 c3]] (grow (redrawn w1 dd) os) fun e w' => e = .returned (.tuple #[.int .i64 (valP (vT la lb u1)).1, .int .i64 (valP (vT la lb u1)).2]) ∧ Below (grow (redrawn w1 dd) os).heap.size (grow (redrawn w1 dd) os) w') := hide (fun dd os => hcall _ (Hb1.out.trans ((below_regrown w1 dd os).mono hz1)))
                  clear c0 c1 cs hvk hku hfu hcall
                  go_wp2_with (go_at_call 56; refine Hdec.out.mono ?_; rintro e w2 ⟨rfl, rfl⟩)
                  refine wp_region_quiet_below (by kernel_rfl) (by kernel_rfl) ?_
                  repeat (go_big_quiet_step ((go_at_call 33; exact Calls.regrown_of (Hcall.out _ _))))
                  refine wpQuiet_nil ?_
                  intro w2 hw2
                  obtain ⟨p, hp⟩ := hw2
                  have hb2 : Below w.heap.size w w2 := by rw [hp]; exact Hbw.out.trans ((below_regrown w1 p.d p.os).mono (by omega))
                  clear hp C0 C1 C2 F2 T0 T1 Hcall f0 f1 f2
                  generalize valP (vT la lb u1) = r at *
                  obtain ⟨r1, r2⟩ := r
                  simp only
                  go_wp2_with fail
                  go_ret2
                  exact ⟨ret_pair Hf.out, hb2⟩
                · obtain ⟨b', off', u1, op3, n3, A3, l3, c3, e', hbW', ⟨c0, c1, cs⟩, hvk, hku, hfu, hcall⟩ := Hkid.out 1 (by omega)
                  injection e' with e'
                  injection e' with e1 e2
                  subst e1; subst e2
                  rw [Nat.one_mul] at c0 c1 cs
                  have Hf : Hid (valP (vT la lb t) = valP (vT la lb u1)) := hide (by rw [Hv.out, vN_if1 Hv0.out (fun y hy => fine_bd hfu (hvk.symm.trans hy)), hvk])
                  have C0 := cell_regrown ((Hb1.out.cell (p := ⟨b, off + 3, none⟩) (by exact hbW)).trans c0)
                  have C1 := cell_regrown ((Hb1.out.cell (p := ⟨b, off + 3 + 1, none⟩) (by exact hbW)).trans c1)
                  have C2 := cell_regrown ((Hb1.out.cell (p := ⟨b, off + 3 + 2, none⟩) (by exact hbW)).trans cs)
                  have Hcall : Hid (∀ (dd : Nat) (os : Array Obj), Calls Try.prog 33 #[.agg #[.slice Aa na ca, .slice Ab nb cb], .agg #[.int .i64 op3, .int .i64 n3, .slice A3 l3 c3]] (grow (redrawn w1 dd) os) fun e w' => e = .returned (.tuple #[.int .i64 (valP (vT la lb u1)).1, .int .i64 (valP (vT la lb u1)).2]) ∧ Below (grow (redrawn w1 dd) os).heap.size (grow (redrawn w1 dd) os) w') := hide (fun dd os => hcall _ (Hb1.out.trans ((below_regrown w1 dd os).mono hz1)))
                  clear c0 c1 cs hvk hku hfu hcall
                  go_wp2_with (go_at_call 56; refine Hdec.out.mono ?_; rintro e w2 ⟨rfl, rfl⟩)
                  refine wp_region_quiet_below (by kernel_rfl) (by kernel_rfl) ?_
                  repeat (go_big_quiet_step ((go_at_call 33; exact Calls.regrown_of (Hcall.out _ _))))
                  refine wpQuiet_nil ?_
                  intro w2 hw2
                  obtain ⟨p, hp⟩ := hw2
                  have hb2 : Below w.heap.size w w2 := by rw [hp]; exact Hbw.out.trans ((below_regrown w1 p.d p.os).mono (by omega))
                  clear hp C0 C1 C2 F2 T0 T1 Hcall f0 f1 f2
                  generalize valP (vT la lb u1) = r at *
                  obtain ⟨r1, r2⟩ := r
                  simp only
                  go_wp2_with fail
                  go_ret2
                  exact ⟨ret_pair Hf.out, hb2⟩
              · have b15 : (op == 15) = false := by simp [h15]
                have Hv2 := hide (vN_two (a := la) (b := lb) (n := n) h5 h15 Hv0.out Hd.out)
                clear h15 Hx01
                obtain ⟨b', off', u1, op3, n3, A3, l3, c3, e', hbW', ⟨c0, c1, cs⟩, hvk, hku, hfu, hcall⟩ := Hkid.out 1 (by omega)
                injection e' with e'
                injection e' with e1 e2
                subst e1; subst e2
                rw [Nat.one_mul] at c0 c1 cs
                obtain ⟨_, _, f2⟩ := Hbox1.out
                obtain ⟨t0, t1⟩ := Htwo1.out
                have F2 := cell_regrown f2
                have T0 := cell_regrown t0
                have T1 := cell_regrown t1
                clear t0 t1
                have C0 := cell_regrown ((Hb1.out.cell (p := ⟨b, off + 3, none⟩) (by exact hbW)).trans c0)
                have C1 := cell_regrown ((Hb1.out.cell (p := ⟨b, off + 3 + 1, none⟩) (by exact hbW)).trans c1)
                have C2 := cell_regrown ((Hb1.out.cell (p := ⟨b, off + 3 + 2, none⟩) (by exact hbW)).trans cs)
                have Hcall : Hid (∀ (dd : Nat) (os : Array Obj), Calls Try.prog 33 #[.agg #[.slice Aa na ca, .slice Ab nb cb], .agg #[.int .i64 op3, .int .i64 n3, .slice A3 l3 c3]] (grow (redrawn w1 dd) os) fun e w' => e = .returned (.tuple #[.int .i64 (valP (vT la lb u1)).1, .int .i64 (valP (vT la lb u1)).2]) ∧ Below (grow (redrawn w1 dd) os).heap.size (grow (redrawn w1 dd) os) w') := hide (fun dd os => hcall _ (Hb1.out.trans ((below_regrown w1 dd os).mono hz1)))
                have Hvk := hide hvk
                have Hfu := hide hfu
                clear c0 c1 cs hvk hku hfu hcall
                have hl2' : (1 : Int) < (len : Int) := by omega
                have hl2n : 1 < len := by omega
                go_wp2_with (go_at_call 56; refine Hdec.out.mono ?_; rintro e w2 ⟨rfl, rfl⟩)
                refine wp_region_quiet_below (by kernel_rfl) (by kernel_rfl) ?_
                repeat (go_big_quiet_step ((go_at_call 33; exact Calls.regrown_of (Hcall.out _ _))))
                refine wpQuiet_nil ?_
                intro w2 hw2
                obtain ⟨p, hp⟩ := hw2
                have hb12 : Below w1.heap.size w1 w2 := by rw [hp]; exact below_regrown w1 p.d p.os
                have Hb2 := hide (Hbw.out.trans (hb12.mono (by omega)))
                have Hbox2 := hide (Hbox1.out.below hb12 (by omega))
                clear hp hb12 C0 C1 C2 F2 T0 T1 Hcall f0 f1 f2 hl2' hl2n
                obtain ⟨f0, f1, f2⟩ := Hbox2.out
                rcases hvu : vT la lb u1 with _ | y
                · have Hf : Hid (valP (vT la lb t) = (0, 6)) := hide (by rw [Hv.out, Hv2.out, Hvk.out, hvu]; rfl)
                  clear hvu Hvk
                  simp only [valP]
                  go_wp2_with fail
                  go_ret2
                  exact ⟨ret_pair Hf.out, Hb2.out⟩
                · obtain ⟨y1, y2⟩ := fine_bd Hfu.out hvu
                  have Hf : Hid (valP (vT la lb t) = joinP op x y) := hide (by rw [Hv.out, Hv2.out, Hvk.out, hvu, joinP_eq y1 y2])
                  clear hvu Hvk
                  simp only [valP]
                  have hj := djoin_any op x y w2 x1 (by omega) y1 (by omega)
                  generalize joinP op x y = r at *
                  obtain ⟨r1, r2⟩ := r
                  have Hj := hide hj
                  clear hj
                  go_wp2_with (go_at_call 57; refine Hj.out.mono ?_; rintro e w3 ⟨rfl, rfl⟩)
                  go_ret2
                  exact ⟨ret_pair Hf.out, Hb2.out⟩
            · have Hf : Hid (valP (vT la lb t) = (r, 0)) := hide (by rw [Hv.out, vN_dec h5 Hv0.out hd]; rfl)
              have Hdec : Hid (Calls Try.prog 56 #[.int .i64 op, .int .i64 x] w1 fun e w' => e = .returned (.tuple #[.int .i64 r, .bool true]) ∧ w1 = w') := hide (by
                have := decided_any op x w1 x1 (by omega)
                rw [hd] at this; exact this)
              clear hd
              go_wp2_with (go_at_call 56; refine Hdec.out.mono ?_; rintro e w2 ⟨rfl, rfl⟩)
              go_ret2
              exact ⟨ret_pair Hf.out, Hbw.out⟩
end Go.Proofs.Ytkjclofkfmkbdaa
