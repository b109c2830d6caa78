/- The walks of May, on both sides. -/
import Derived.Test.YtbppdalfcldodaaGreatGWords
import Derived.BigQuiet
import Derived.Lib.QuietBelow
set_option maxRecDepth 100000
namespace Go.Proofs.YtbppdalfcldodaaGreat.Gr
open Go.RowKit
set_option linter.unusedSimpArgs false
set_option linter.unusedVariables false

theorem ascends_any (B : Nat) (A : Option Addr) (n c : Nat) (l : List Int) (T : Int) (w : World) (hT : T ≤ 9223372036854775807) (hr : RI w B ⟨A, n, c⟩ l) :
    Calls Tryz.prog 55 #[.slice A n c, .int .i64 T] w fun e w' => e = .returned (.bool (risL T 0 l)) ∧ w' = w := by
  have Hr := hide hr
  have Hl := hide hr.len
  have hn : n ≤ maxLen := Nat.le_trans hr.2.1 hr.2.2.1
  unfold maxLen at hn
  clear hr
  go_enter Tryz.func55, Tryz.ntmps55
  go_wp2_with fail
  go_loopw [5, 10] (fun least i wr => ∃ (k : Nat) (lo : Int), k ≤ n ∧ 0 ≤ lo ∧ least = .int .i64 lo ∧ i = .int .i64 k ∧ Hid (risL T lo (l.drop k) = risL T 0 l) ∧ wr = w) (fun _ i _ => n - (intOf i).toNat)
  case atStart => exact ⟨0, 0, Nat.zero_le _, Int.le_refl _, rfl, rfl, hide rfl, rfl⟩
  case round =>
    obtain ⟨k, lo, hk, h0, rfl, rfl, HT, rfl⟩ := hrel
    by_cases hlt : k < n
    · have hlt' : (k : Int) < (n : Int) := by omega
      obtain ⟨b, off, x, rfl, hb, hx, hc⟩ := Hr.out.at_ hlt
      have Hd := hide (drop_at hx)
      clear hx
      cases h1 : decide (x < lo)
      · have h1' : ¬ x < lo := by simpa using h1
        cases h2 : decide (T ≤ x)
        · have h2' : ¬ T ≤ x := by simpa using h2
          have Hon : Hid (risL T (x + 1) (l.drop (k + 1)) = risL T 0 l) := hide (by rw [← HT.out, Hd.out, risL, if_neg (by omega)])
          go_wp2_with fail
          go_roundw
          case rel => exact ⟨k + 1, x + 1, by omega, by omega, by go_num, by go_num, Hon, by trivial⟩
          case measure => simp [intOf]; omega
        · have Hf : Hid (risL T 0 l = false) := hide (by rw [← HT.out, Hd.out, risL, if_pos (.inr (by simpa using h2))])
          go_wp2_with fail
          go_ret
          exact ⟨ret_bool Hf.out.symm, rfl⟩
      · have Hf : Hid (risL T 0 l = false) := hide (by rw [← HT.out, Hd.out, risL, if_pos (.inl (by simpa using h1))])
        go_wp2_with fail
        go_ret
        exact ⟨ret_bool Hf.out.symm, rfl⟩
    · have hlt' : ¬ (k : Int) < (n : Int) := by omega
      have Hf : Hid (risL T 0 l = true) := hide (by rw [← HT.out, List.drop_of_length_le (by rw [Hl.out]; exact Nat.le_of_not_lt hlt), risL])
      go_wp2_with fail
      go_ret
      exact ⟨ret_bool Hf.out.symm, rfl⟩

theorem lt_succ_dec {x lo : Int} (h : decide (x ≤ lo) = true) : x < lo + 1 := by have := of_decide_eq_true h; omega
theorem rising_any (B : Nat) (A : Option Addr) (n c : Nat) (l : List Int) (T : Int) (w : World) (hr : RI w B ⟨A, n, c⟩ l) :
    Calls Tryz.prog 53 #[.slice A n c, .int .i64 T] w fun e w' => e = .returned (.bool (risL T 0 l)) ∧ w' = w := by
  have Hr := hide hr
  have Hl := hide hr.len
  have hn : n ≤ maxLen := Nat.le_trans hr.2.1 hr.2.2.1
  unfold maxLen at hn
  clear hr
  go_enter Tryz.func53, Tryz.ntmps53
  go_wp2_with fail
  go_loopw [5, 10] (fun least i wr => ∃ (k : Nat) (lo : Int), k ≤ n ∧ least = .int .i64 lo ∧ i = .int .i64 k ∧ Hid (risL T (lo + 1) (l.drop k) = risL T 0 l) ∧ wr = w) (fun _ i _ => n - (intOf i).toNat)
  case atStart => exact ⟨0, -1, Nat.zero_le _, rfl, rfl, hide rfl, rfl⟩
  case round =>
    obtain ⟨k, lo, hk, rfl, rfl, HT, rfl⟩ := hrel
    by_cases hlt : k < n
    · have hlt' : (k : Int) < (n : Int) := by omega
      obtain ⟨b, off, x, rfl, hb, hx, hc⟩ := Hr.out.at_ hlt
      have Hd := hide (drop_at hx)
      clear hx
      cases h1 : decide (x ≤ lo)
      · have h1' : ¬ x ≤ lo := by simpa using h1
        cases h2 : decide (T ≤ x)
        · have h2' : ¬ T ≤ x := by simpa using h2
          have Hon : Hid (risL T (x + 1) (l.drop (k + 1)) = risL T 0 l) := hide (by rw [← HT.out, Hd.out, risL, if_neg (by omega)])
          go_wp2_with fail
          go_roundw
          case rel => exact ⟨k + 1, x, by omega, by go_num, by go_num, Hon, by trivial⟩
          case measure => simp [intOf]; omega
        · have Hf : Hid (risL T 0 l = false) := hide (by rw [← HT.out, Hd.out, risL, if_pos (.inr (by simpa using h2))])
          go_wp2_with fail
          go_ret
          exact ⟨ret_bool Hf.out.symm, rfl⟩
      · have Hf : Hid (risL T 0 l = false) := hide (by rw [← HT.out, Hd.out, risL, if_pos (.inl (lt_succ_dec h1))])
        go_wp2_with fail
        go_ret
        exact ⟨ret_bool Hf.out.symm, rfl⟩
    · have hlt' : ¬ (k : Int) < (n : Int) := by omega
      have Hf : Hid (risL T 0 l = true) := hide (by rw [← HT.out, List.drop_of_length_le (by rw [Hl.out]; exact Nat.le_of_not_lt hlt), risL])
      go_wp2_with fail
      go_ret
      exact ⟨ret_bool Hf.out.symm, rfl⟩
theorem player_any (x : Int) (w : World) : Calls Tryz.prog 54 #[.int .i64 x] w fun e w' => e = .returned (.bool (plB x)) ∧ w' = w := by
  have Hp : Hid (plB x = (x == 0 || x == 1)) := hide rfl
  cases h0 : x == 0
  · cases h1 : x == 1
    · have Hf : Hid (plB x = false) := hide (by rw [Hp.out, h0, h1]; rfl)
      go_enter Tryz.func54, Tryz.ntmps54
      go_wp2_with fail
      go_ret
      exact ⟨ret_bool Hf.out.symm, rfl⟩
    · have Hf : Hid (plB x = true) := hide (by rw [Hp.out, h0, h1]; rfl)
      go_enter Tryz.func54, Tryz.ntmps54
      go_wp2_with fail
      go_ret
      exact ⟨ret_bool Hf.out.symm, rfl⟩
  · have Hf : Hid (plB x = true) := hide (by rw [Hp.out, h0]; rfl)
    go_enter Tryz.func54, Tryz.ntmps54
    go_wp2_with fail
    go_ret
    exact ⟨ret_bool Hf.out.symm, rfl⟩
theorem may_end {g : GT} (h1 : ¬ 3000 < g.own.length) (h2 : g.nxt.length = g.own.length) : mayG g = if okRows g.own.length g.own g.nxt = true then 0 else 1 := by
  unfold mayG; rw [if_neg h1, if_neg (by omega)]
set_option maxHeartbeats 1000000 in
theorem may_any (B : Nat) (OA NA : Option Addr) (on oc nn nc : Nat) (g : GT) (w : World) (hB : B ≤ w.heap.size) (hg : RG w B ⟨OA, on, oc⟩ ⟨NA, nn, nc⟩ g) :
    Calls Tryz.prog 25 #[.agg #[.slice OA on oc, .slice NA nn nc]] w fun e w' => e = .returned (.int .i64 (mayG g)) ∧ Below w.heap.size w w' := by
  have hbx : Below w.heap.size w (w.alloc (.cells #[.slice OA on oc, .slice NA nn nc] 35)) := (Below.refl _ _).alloc (Nat.le_refl _) _
  have Hg := hide (hg.below (hbx.mono hB))
  have hz0 : w.heap.size + 1 ≤ (w.alloc (.cells #[.slice OA on oc, .slice NA nn nc] 35)).heap.size := by simp
  have hl1 := hg.own.len
  have hl2 := hg.nxt.len
  simp only at hl1 hl2
  have Hl1 := hide hl1
  have Hl2 := hide hl2
  have hn1 : on ≤ maxLen := Nat.le_trans hg.own.2.1 hg.own.2.2.1
  have hn2 : nn ≤ maxLen := Nat.le_trans hg.nxt.2.1 hg.nxt.2.2.1
  unfold maxLen at hn1 hn2
  obtain ⟨c0, c1⟩ := box_new w OA NA on oc nn nc 35
  simp only [SL.v] at c0 c1
  have C0 := hide c0
  have C1 := hide c1
  clear hg hl1 hl2 c0 c1
  go_enter Tryz.func25, Tryz.ntmps25
  by_cases h1 : 3000 < on
  · have h1' : (3000 : Int) < (on : Int) := by omega
    have Hf : Hid (mayG g = 7) := hide (by unfold mayG; rw [if_pos (by rw [Hl1.out]; exact h1)])
    go_wp2_with fail
    go_ret
    exact ⟨ret_int Hf.out.symm, hbx⟩
  · have h1' : ¬ (3000 : Int) < (on : Int) := by omega
    by_cases h2 : nn = on
    · subst h2
      have h2' : ((nn : Int) != (nn : Int)) = false := by simp
      have Hm := hide (may_end (g := g) (by rw [Hl1.out]; exact h1) (by rw [Hl1.out, Hl2.out]))
      go_wp2_with fail
      generalize w.alloc (.cells #[.slice OA nn oc, .slice NA nn nc] 35) = w2 at *
      go_loopw [19] (fun i wr => ∃ (k : Nat), k ≤ nn ∧ i = .int .i64 k ∧ Hid (okRows nn (g.own.drop k) (g.nxt.drop k) = okRows g.own.length g.own g.nxt) ∧ Below w2.heap.size w2 wr) (fun i _ => nn - (intOf i).toNat)
      case atStart => exact ⟨0, Nat.zero_le _, rfl, hide (by rw [Hl1.out]; rfl), Below.refl _ _⟩
      case round =>
        obtain ⟨k, hk, rfl, HT, hb⟩ := hrel
        have hsz := hb.size
        by_cases hlt : k < nn
        · have hlt' : (k : Int) < (nn : Int) := by omega
          have hg2 := Hg.out.below (hb.mono (by omega))
          obtain ⟨b, off, x, rfl, hbB, hx, hc⟩ := hg2.own.at_ hlt
          obtain ⟨b2, off2, r, A2, n2, k2, rfl, hbB2, hr, hc2, hri⟩ := hg2.nxt.at_ (hlt)
          have Hs : Hid ((plB x && (risL nn 0 r && okRows nn (g.own.drop (k + 1)) (g.nxt.drop (k + 1)))) = okRows g.own.length g.own g.nxt) := hide (by rw [← HT.out, drop_at hx, drop_at hr, okRows])
          clear hx hr hg2
          have Hri := hide hri
          clear hri
          have c0 : wr.cell? ⟨w.heap.size, 0, none⟩ = some (.slice (some ⟨b, off, none⟩) nn oc) := (hb.cell (p := ⟨w.heap.size, 0, none⟩) (by show w.heap.size < _; omega)).trans C0.out
          have c1 : wr.cell? ⟨w.heap.size, 1, none⟩ = some (.slice (some ⟨b2, off2, none⟩) nn nc) := (hb.cell (p := ⟨w.heap.size, 1, none⟩) (by show w.heap.size < _; omega)).trans C1.out
          have e0 := cell_regrown c0
          have e1 := cell_regrown c1
          have e3 := cell_regrown hc2
          have hbw := hbx.trans (hb.mono (by omega))
          have Hcall : Hid (∀ (dd : Nat) (os : Array Obj), Calls Tryz.prog 55 #[.slice A2 n2 k2, .int .i64 (nn : Int)] (Go.Sort.grow (redrawn wr dd) os) fun e w' => e = .returned (.bool (risL nn 0 r)) ∧ Below (Go.Sort.grow (redrawn wr dd) os).heap.size (Go.Sort.grow (redrawn wr dd) os) w') :=
            hide (fun dd os => (ascends_any B A2 n2 k2 r nn _ (by omega) (Hri.out.below ((below_regrown wr dd os).mono (by omega)))).mono fun e w' ⟨he, hw⟩ => ⟨he, hw ▸ Below.refl _ _⟩)
          have Hpl : Hid (∀ (dd : Nat) (os : Array Obj), Calls Tryz.prog 54 #[.int .i64 x] (Go.Sort.grow (redrawn wr dd) os) fun e w' => e = .returned (.bool (plB x)) ∧ Below (Go.Sort.grow (redrawn wr dd) os).heap.size (Go.Sort.grow (redrawn wr dd) os) w') :=
            hide (fun dd os => (player_any x _).mono fun e w' ⟨he, hw⟩ => ⟨he, hw ▸ Below.refl _ _⟩)
          go_wp2_with fail
          cases hp : plB x
          · have Hf : Hid (mayG g = 1) := hide (by rw [Hm.out, ← Hs.out, hp]; rfl)
            rw [hp] at Hpl
            clear c0 c1 hc hc2
            refine wp_region_quiet_below (by kernel_rfl) (by kernel_rfl) ?_
            repeat (go_big_quiet_step (first | (go_at_call 54; exact Calls.regrown_of (Hpl.out _ _)) | (go_at_call 55; exact Calls.regrown_of (Hcall.out _ _))))
            refine wpQuiet_nil ?_
            intro w3 hw3
            obtain ⟨p, hp3⟩ := hw3
            have hb3 : Below w.heap.size w w3 := by rw [hp3]; exact hbw.trans ((below_regrown wr p.d p.os).mono (by have := hbw.size; omega))
            clear hp3
            go_wp2_with fail
            go_ret
            exact ⟨ret_int Hf.out.symm, hb3⟩
          · cases hq : risL nn 0 r
            · have Hf : Hid (mayG g = 1) := hide (by rw [Hm.out, ← Hs.out, hp, hq]; rfl)
              rw [hp] at Hpl
              rw [hq] at Hcall
              clear c0 c1 hc hc2
              refine wp_region_quiet_below (by kernel_rfl) (by kernel_rfl) ?_
              repeat (go_big_quiet_step (first | (go_at_call 54; exact Calls.regrown_of (Hpl.out _ _)) | (go_at_call 55; exact Calls.regrown_of (Hcall.out _ _))))
              refine wpQuiet_nil ?_
              intro w3 hw3
              obtain ⟨p, hp3⟩ := hw3
              have hb3 : Below w.heap.size w w3 := by rw [hp3]; exact hbw.trans ((below_regrown wr p.d p.os).mono (by have := hbw.size; omega))
              clear hp3
              go_wp2_with fail
              go_ret
              exact ⟨ret_int Hf.out.symm, hb3⟩
            · have Hon : Hid (okRows nn (g.own.drop (k + 1)) (g.nxt.drop (k + 1)) = okRows g.own.length g.own g.nxt) := hide (by rw [← Hs.out, hp, hq]; rfl)
              rw [hp] at Hpl
              rw [hq] at Hcall
              clear c0 c1 hc hc2
              refine wp_region_quiet_below (by kernel_rfl) (by kernel_rfl) ?_
              repeat (go_big_quiet_step (first | (go_at_call 54; exact Calls.regrown_of (Hpl.out _ _)) | (go_at_call 55; exact Calls.regrown_of (Hcall.out _ _))))
              refine wpQuiet_nil ?_
              intro w3 hw3
              obtain ⟨p, hp3⟩ := hw3
              have hb3 : Below w2.heap.size w2 w3 := by rw [hp3]; exact hb.trans ((below_regrown wr p.d p.os).mono (by omega))
              clear hp3
              go_wp2_with fail
              go_roundw
              case rel => exact ⟨k + 1, by omega, by go_num, Hon, hb3⟩
              case measure => simp [intOf]; omega
        · have hlt' : ¬ (k : Int) < (nn : Int) := by omega
          have Hf : Hid (mayG g = 0) := hide (by rw [Hm.out, ← HT.out, List.drop_of_length_le (by rw [Hl1.out]; omega)]; simp [okRows])
          go_wp2_with fail
          go_ret
          exact ⟨ret_int Hf.out.symm, hbx.trans (hb.mono (by omega))⟩
    · have h2' : ((nn : Int) != (on : Int)) = true := by simp; omega
      have Hf : Hid (mayG g = 1) := hide (by unfold mayG; rw [if_neg (by rw [Hl1.out]; exact h1), if_pos (by rw [Hl1.out, Hl2.out]; exact h2)])
      clear h2
      go_wp2_with fail
      go_ret
      exact ⟨ret_int Hf.out.symm, hbx⟩
end Go.Proofs.YtbppdalfcldodaaGreat.Gr
