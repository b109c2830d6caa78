/- The walk of the statement EvalNumbers. -/
import Derived.Test.YtkjclofkfmkbdaaMNat
namespace Go.Proofs.Ytkjclofkfmkbdaa
open Go.RowKit Ex
open Go.Sort (grow)
set_option linter.unusedSimpArgs false
set_option linter.unusedVariables false

theorem keep1 {W w' : World} {p : Addr} {x : Value} (h1 : W.cell? p = some x) (hp : p.block < W.heap.size) (hs : Hid (Below W.heap.size W w')) : w'.cell? p = some x := (hs.out.cell hp).trans h1
theorem up_alloc {W w' : World} (hs : Hid (Below W.heap.size W w')) (o : Obj) : Hid (Below W.heap.size W (w'.alloc o)) := hide (hs.out.alloc hs.out.size o)
theorem c_num {W w' : World} {x : Int} (hs : Hid (Below W.heap.size W w')) : Calls Try.prog 25 #[.int .i64 x] w' fun e w'' => e = .returned (.agg #[.int .i64 1, .int .i64 x, .slice none 0 0]) ∧ Hid (Below W.heap.size W w'') :=
  (num_any x w').mono fun _ _ ⟨he, hb⟩ => ⟨he, hide (hs.out.trans (hb.mono hs.out.size))⟩
set_option maxRecDepth 100000 in
set_option maxHeartbeats 8000000 in
theorem enum_any (x y : Int) (w : World) : Calls Try.prog 6 #[.int .i64 x, .int .i64 y] w fun e w' => e = .returned (.bool true) ∧ Below w.heap.size w w' := by
  obtain ⟨qa, hqa, ha⟩ := mod_num x
  obtain ⟨qb, hqb, hb⟩ := mod_num y
  have ha1 : IntKind.i64.wrap (qa : Int) = (qa : Int) := by rw [IntKind.wrap_i64]; omega
  have hb1 : IntKind.i64.wrap (qb : Int) = (qb : Int) := by rw [IntKind.wrap_i64]; omega
  obtain ⟨a, haa⟩ : ∃ a : Int, (qa : Int) - 1000 = a := ⟨_, rfl⟩
  obtain ⟨b, hbb⟩ : ∃ b : Int, (qb : Int) - 1000 = b := ⟨_, rfl⟩
  have ha2 : IntKind.i64.wrap ((qa : Int) - 1000) = a := by rw [IntKind.wrap_i64]; omega
  have hb2 : IntKind.i64.wrap ((qb : Int) - 1000) = b := by rw [IntKind.wrap_i64]; omega
  have ba : -1000 ≤ a ∧ a ≤ 1000 := by omega
  have bb : -1000 ≤ b ∧ b ≤ 1000 := by omega
  have hm := mul_bd ba.1 (by omega) bb.1 (by omega)
  obtain ⟨z1, hz1⟩ : ∃ z, a + b = z := ⟨_, rfl⟩
  obtain ⟨z2, hz2⟩ : ∃ z, a - b = z := ⟨_, rfl⟩
  obtain ⟨z3, hz3⟩ : ∃ z, a * b = z := ⟨_, rfl⟩
  have w1 : IntKind.i64.wrap (a + b) = z1 := by rw [IntKind.wrap_i64]; omega
  have w2 : IntKind.i64.wrap (a - b) = z2 := by rw [IntKind.wrap_i64]; omega
  have w3 : IntKind.i64.wrap (a * b) = z3 := by rw [IntKind.wrap_i64]; omega
  have Hz1 := hide hz1; have Hz2 := hide hz2; have Hz3 := hide hz3
  have Ba := hide ba; have Bb := hide bb
  clear hz1 hz2 hz3 ba bb hm hqa hqb haa hbb
  go_enter Try.func6, Try.ntmps6
  go_wp2_with fail
  clear ha hb ha1 hb1 ha2 hb2 w1 w2 w3
  go_loopw [32] (fun i wr => (i = .int .i64 0 ∨ i = .int .i64 1 ∨ i = .int .i64 2 ∨ i = .int .i64 3) ∧ Below w.heap.size w wr) (fun i _ => 3 - (intOf i).toNat)
  case atStart => exact ⟨.inl rfl, Below.refl _ _⟩
  case round =>
    obtain ⟨hi, hbw⟩ := hrel
    have Hb := hide hbw
    clear hbw
    rcases hi with rfl | rfl | rfl | rfl
    · have hix := num_idx0 z1 z2 z3
      have hbA := (Below.refl wr.heap.size wr).alloc (Nat.le_refl _) (.cells #[.int .i64 12, .int .i64 z1] 40)
      have c0 : (wr.alloc (.cells #[.int .i64 12, .int .i64 z1] 40)).cell? ⟨wr.heap.size, 0, none⟩ = some (.int .i64 12) := by simp [go_sem]
      have c1 : (wr.alloc (.cells #[.int .i64 12, .int .i64 z1] 40)).cell? ⟨wr.heap.size, 1, none⟩ = some (.int .i64 z1) := by simp [go_sem]
      have hzA := alloc_size wr (.cells #[.int .i64 12, .int .i64 z1] 40)
      have HbA := hide (Hb.out.trans (hbA.mono (by have := Hb.out.size; omega)))
      have Hvo : Hid (vOp 12 a b = z1) := hide (by rw [← Hz1.out]; rfl)
      clear hbA
      go_wp2_with fail
      clear hix
      generalize wr.alloc (.cells #[.int .i64 12, .int .i64 z1] 40) = W at *
      generalize hN : wr.heap.size = N at *
      have HC0 := hide c0
      have HC1 := hide c1
      have hNW : N < W.heap.size := by omega
      have Hdr : Hid (Below W.heap.size W W.drew) := hide (Below.refl _ _).drew
      go_region_held3 (fun w' => w'.cell? ⟨N, 0, none⟩ = some (.int .i64 12))
        (first | exact keep1 HC0.out (by exact hNW) (by assumption) | exact keep1 HC0.out (by exact hNW) (up_alloc hb1 _))
        (first
          | (go_at_call 25; refine (c_num (by assumption)).mono ?_; rintro e v1 ⟨rfl, hb1⟩)
          | (go_at_call 23; refine (op_any _ _ _ _ _).mono ?_; rintro e v2 ⟨rfl, hq2⟩; have hb2 : Hid (Below W.heap.size W v2) := hide ((up_alloc hb1 _).out.trans (hq2.mono (up_alloc hb1 _).out.size)))
          | (go_at_call 12; refine (dval_any (v1.heap.size + 1) none 0 0 [] (1 + 1 + 1) 12 0 (some ⟨v1.heap.size, 0, none⟩) 2 2 (twT 12 a b) 0 0 v2 nil_ok.1 nil_ok.2.1 nil_ok.2.2.1 (Nat.le_trans (alloc_size _ _) hq2.size) (tw_re hq2) (nil_rv _ _) nil_ok.2.2.2).mono ?_; rintro e v3 ⟨rfl, hq3⟩; have hb3 : Hid (Below W.heap.size W v3) := hide (hb2.out.trans (hq3.mono hb2.out.size))))
      have hz3 := hb3.out.size
      have d1 := (hb3.out.cell (p := ⟨N, 1, none⟩) (by exact hNW)).trans HC1.out
      have Hb3 := hide (HbA.out.trans (hb3.out.mono (by have := HbA.out.size; omega)))
      by_cases hin : -1000 ≤ z1 ∧ z1 ≤ 1000
      · rw [tw_in (by omega) Ba.out Bb.out Hvo.out hin]
        have i1 : decide (z1 < -1000) = false := by simp; omega
        have i2 : decide (1000 < z1) = false := by simp; omega
        simp only
        clear hin hb3 hq3 hb2 hq2 hb1 HC0 HC1 c0 c1
        go_wp2_with fail
        go_roundw
        case rel => exact ⟨by simp, Hb3.out⟩
        case measure => simp [intOf]
      · rw [tw_out (by omega) Ba.out Bb.out Hvo.out hin]
        simp only
        clear hb3 hq3 hb2 hq2 hb1 HC0 HC1 c0 c1
        by_cases hlo : z1 < -1000
        · have i1 : decide (z1 < -1000) = true := by simp [hlo]
          clear hin
          go_wp2_with fail
          go_roundw
          case rel => exact ⟨by simp, Hb3.out⟩
          case measure => simp [intOf]
        · have i1 : decide (z1 < -1000) = false := by simp; omega
          have i2 : decide (1000 < z1) = true := by simp; omega
          clear hin
          go_wp2_with fail
          go_roundw
          case rel => exact ⟨by simp, Hb3.out⟩
          case measure => simp [intOf]
    · have hix := num_idx1 z1 z2 z3
      have hbA := (Below.refl wr.heap.size wr).alloc (Nat.le_refl _) (.cells #[.int .i64 13, .int .i64 z2] 40)
      have c0 : (wr.alloc (.cells #[.int .i64 13, .int .i64 z2] 40)).cell? ⟨wr.heap.size, 0, none⟩ = some (.int .i64 13) := by simp [go_sem]
      have c1 : (wr.alloc (.cells #[.int .i64 13, .int .i64 z2] 40)).cell? ⟨wr.heap.size, 1, none⟩ = some (.int .i64 z2) := by simp [go_sem]
      have hzA := alloc_size wr (.cells #[.int .i64 13, .int .i64 z2] 40)
      have HbA := hide (Hb.out.trans (hbA.mono (by have := Hb.out.size; omega)))
      have Hvo : Hid (vOp 13 a b = z2) := hide (by rw [← Hz2.out]; rfl)
      clear hbA
      go_wp2_with fail
      clear hix
      generalize wr.alloc (.cells #[.int .i64 13, .int .i64 z2] 40) = W at *
      generalize hN : wr.heap.size = N at *
      have HC0 := hide c0
      have HC1 := hide c1
      have hNW : N < W.heap.size := by omega
      have Hdr : Hid (Below W.heap.size W W.drew) := hide (Below.refl _ _).drew
      go_region_held3 (fun w' => w'.cell? ⟨N, 0, none⟩ = some (.int .i64 13))
        (first | exact keep1 HC0.out (by exact hNW) (by assumption) | exact keep1 HC0.out (by exact hNW) (up_alloc hb1 _))
        (first
          | (go_at_call 25; refine (c_num (by assumption)).mono ?_; rintro e v1 ⟨rfl, hb1⟩)
          | (go_at_call 23; refine (op_any _ _ _ _ _).mono ?_; rintro e v2 ⟨rfl, hq2⟩; have hb2 : Hid (Below W.heap.size W v2) := hide ((up_alloc hb1 _).out.trans (hq2.mono (up_alloc hb1 _).out.size)))
          | (go_at_call 12; refine (dval_any (v1.heap.size + 1) none 0 0 [] (1 + 1 + 1) 13 0 (some ⟨v1.heap.size, 0, none⟩) 2 2 (twT 13 a b) 0 0 v2 nil_ok.1 nil_ok.2.1 nil_ok.2.2.1 (Nat.le_trans (alloc_size _ _) hq2.size) (tw_re hq2) (nil_rv _ _) nil_ok.2.2.2).mono ?_; rintro e v3 ⟨rfl, hq3⟩; have hb3 : Hid (Below W.heap.size W v3) := hide (hb2.out.trans (hq3.mono hb2.out.size))))
      have hz3 := hb3.out.size
      have d1 := (hb3.out.cell (p := ⟨N, 1, none⟩) (by exact hNW)).trans HC1.out
      have Hb3 := hide (HbA.out.trans (hb3.out.mono (by have := HbA.out.size; omega)))
      by_cases hin : -1000 ≤ z2 ∧ z2 ≤ 1000
      · rw [tw_in (by omega) Ba.out Bb.out Hvo.out hin]
        have i1 : decide (z2 < -1000) = false := by simp; omega
        have i2 : decide (1000 < z2) = false := by simp; omega
        simp only
        clear hin hb3 hq3 hb2 hq2 hb1 HC0 HC1 c0 c1
        go_wp2_with fail
        go_roundw
        case rel => exact ⟨by simp, Hb3.out⟩
        case measure => simp [intOf]
      · rw [tw_out (by omega) Ba.out Bb.out Hvo.out hin]
        simp only
        clear hb3 hq3 hb2 hq2 hb1 HC0 HC1 c0 c1
        by_cases hlo : z2 < -1000
        · have i1 : decide (z2 < -1000) = true := by simp [hlo]
          clear hin
          go_wp2_with fail
          go_roundw
          case rel => exact ⟨by simp, Hb3.out⟩
          case measure => simp [intOf]
        · have i1 : decide (z2 < -1000) = false := by simp; omega
          have i2 : decide (1000 < z2) = true := by simp; omega
          clear hin
          go_wp2_with fail
          go_roundw
          case rel => exact ⟨by simp, Hb3.out⟩
          case measure => simp [intOf]
    · have hix := num_idx2 z1 z2 z3
      have hbA := (Below.refl wr.heap.size wr).alloc (Nat.le_refl _) (.cells #[.int .i64 14, .int .i64 z3] 40)
      have c0 : (wr.alloc (.cells #[.int .i64 14, .int .i64 z3] 40)).cell? ⟨wr.heap.size, 0, none⟩ = some (.int .i64 14) := by simp [go_sem]
      have c1 : (wr.alloc (.cells #[.int .i64 14, .int .i64 z3] 40)).cell? ⟨wr.heap.size, 1, none⟩ = some (.int .i64 z3) := by simp [go_sem]
      have hzA := alloc_size wr (.cells #[.int .i64 14, .int .i64 z3] 40)
      have HbA := hide (Hb.out.trans (hbA.mono (by have := Hb.out.size; omega)))
      have Hvo : Hid (vOp 14 a b = z3) := hide (by rw [← Hz3.out]; rfl)
      clear hbA
      go_wp2_with fail
      clear hix
      generalize wr.alloc (.cells #[.int .i64 14, .int .i64 z3] 40) = W at *
      generalize hN : wr.heap.size = N at *
      have HC0 := hide c0
      have HC1 := hide c1
      have hNW : N < W.heap.size := by omega
      have Hdr : Hid (Below W.heap.size W W.drew) := hide (Below.refl _ _).drew
      go_region_held3 (fun w' => w'.cell? ⟨N, 0, none⟩ = some (.int .i64 14))
        (first | exact keep1 HC0.out (by exact hNW) (by assumption) | exact keep1 HC0.out (by exact hNW) (up_alloc hb1 _))
        (first
          | (go_at_call 25; refine (c_num (by assumption)).mono ?_; rintro e v1 ⟨rfl, hb1⟩)
          | (go_at_call 23; refine (op_any _ _ _ _ _).mono ?_; rintro e v2 ⟨rfl, hq2⟩; have hb2 : Hid (Below W.heap.size W v2) := hide ((up_alloc hb1 _).out.trans (hq2.mono (up_alloc hb1 _).out.size)))
          | (go_at_call 12; refine (dval_any (v1.heap.size + 1) none 0 0 [] (1 + 1 + 1) 14 0 (some ⟨v1.heap.size, 0, none⟩) 2 2 (twT 14 a b) 0 0 v2 nil_ok.1 nil_ok.2.1 nil_ok.2.2.1 (Nat.le_trans (alloc_size _ _) hq2.size) (tw_re hq2) (nil_rv _ _) nil_ok.2.2.2).mono ?_; rintro e v3 ⟨rfl, hq3⟩; have hb3 : Hid (Below W.heap.size W v3) := hide (hb2.out.trans (hq3.mono hb2.out.size))))
      have hz3 := hb3.out.size
      have d1 := (hb3.out.cell (p := ⟨N, 1, none⟩) (by exact hNW)).trans HC1.out
      have Hb3 := hide (HbA.out.trans (hb3.out.mono (by have := HbA.out.size; omega)))
      by_cases hin : -1000 ≤ z3 ∧ z3 ≤ 1000
      · rw [tw_in (by omega) Ba.out Bb.out Hvo.out hin]
        have i1 : decide (z3 < -1000) = false := by simp; omega
        have i2 : decide (1000 < z3) = false := by simp; omega
        simp only
        clear hin hb3 hq3 hb2 hq2 hb1 HC0 HC1 c0 c1
        go_wp2_with fail
        go_roundw
        case rel => exact ⟨by simp, Hb3.out⟩
        case measure => simp [intOf]
      · rw [tw_out (by omega) Ba.out Bb.out Hvo.out hin]
        simp only
        clear hb3 hq3 hb2 hq2 hb1 HC0 HC1 c0 c1
        by_cases hlo : z3 < -1000
        · have i1 : decide (z3 < -1000) = true := by simp [hlo]
          clear hin
          go_wp2_with fail
          go_roundw
          case rel => exact ⟨by simp, Hb3.out⟩
          case measure => simp [intOf]
        · have i1 : decide (z3 < -1000) = false := by simp; omega
          have i2 : decide (1000 < z3) = true := by simp; omega
          clear hin
          go_wp2_with fail
          go_roundw
          case rel => exact ⟨by simp, Hb3.out⟩
          case measure => simp [intOf]
    · obtain ⟨wA, rfl⟩ : ∃ wA, wA = wr := ⟨_, rfl⟩
      go_wp2_with fail
      refine (num_any _ _).mono ?_
      rintro e n1 ⟨rfl, ha1⟩
      have Ha1 := hide (Hb.out.trans (ha1.mono (by have := Hb.out.size; omega)))
      clear ha1
      go_wp2_with fail
      refine (num_any _ _).mono ?_
      rintro e m1 ⟨rfl, hb1⟩
      have Hb1 := hide (Ha1.out.trans (hb1.mono (by have := Ha1.out.size; omega)))
      clear hb1
      go_wp2_with fail
      refine (op_any _ _ _ _ _).mono ?_
      rintro e o1 ⟨rfl, hc1⟩
      have Hre1 := hide (tw_re (op := 10) hc1)
      have hsz1 := Nat.le_trans (alloc_size _ _) hc1.size
      have Hc1 := hide ((Hb1.out.alloc Hb1.out.size _).trans (hc1.mono (by have := Hb1.out.size; have := alloc_size m1 (.cells #[.int .i64 1, .int .i64 a, .slice none 0 0, .int .i64 1, .int .i64 b, .slice none 0 0] 25); omega)))
      clear hc1
      go_wp2_with fail
      refine (dtrue_any (m1.heap.size + 1) none 0 0 [] (1 + 1 + 1) 10 0 (some ⟨m1.heap.size, 0, none⟩) 2 2 (twT 10 a b) 0 0 o1 nil_ok.1 nil_ok.2.1 nil_ok.2.2.1 hsz1 Hre1.out (nil_rv _ _) nil_ok.2.2.2).mono ?_
      rintro e t1 ⟨rfl, hd1⟩
      rw [tw_true (p := decide (a < b)) (by omega) Ba.out Bb.out rfl]
      have Hd1 := hide (Hc1.out.trans (hd1.mono (by have := Hc1.out.size; omega)))
      clear hd1 Hre1 hsz1
      go_wp2_with fail
      refine (num_any _ _).mono ?_
      rintro e n2 ⟨rfl, ha2⟩
      have Ha2 := hide (Hd1.out.trans (ha2.mono (by have := Hd1.out.size; omega)))
      clear ha2
      go_wp2_with fail
      refine (num_any _ _).mono ?_
      rintro e m2 ⟨rfl, hb2⟩
      have Hb2 := hide (Ha2.out.trans (hb2.mono (by have := Ha2.out.size; omega)))
      clear hb2
      go_wp2_with fail
      refine (op_any _ _ _ _ _).mono ?_
      rintro e o2 ⟨rfl, hc2⟩
      have Hre2 := hide (tw_re (op := 11) hc2)
      have hsz2 := Nat.le_trans (alloc_size _ _) hc2.size
      have Hc2 := hide ((Hb2.out.alloc Hb2.out.size _).trans (hc2.mono (by have := Hb2.out.size; have := alloc_size m2 (.cells #[.int .i64 1, .int .i64 a, .slice none 0 0, .int .i64 1, .int .i64 b, .slice none 0 0] 25); omega)))
      clear hc2
      go_wp2_with fail
      refine (dtrue_any (m2.heap.size + 1) none 0 0 [] (1 + 1 + 1) 11 0 (some ⟨m2.heap.size, 0, none⟩) 2 2 (twT 11 a b) 0 0 o2 nil_ok.1 nil_ok.2.1 nil_ok.2.2.1 hsz2 Hre2.out (nil_rv _ _) nil_ok.2.2.2).mono ?_
      rintro e t2 ⟨rfl, hd2⟩
      rw [tw_true (p := decide (a ≤ b)) (by omega) Ba.out Bb.out rfl]
      have Hd2 := hide (Hc2.out.trans (hd2.mono (by have := Hc2.out.size; omega)))
      clear hd2 Hre2 hsz2
      go_wp2_with fail
      refine (num_any _ _).mono ?_
      rintro e n3 ⟨rfl, ha3⟩
      have Ha3 := hide (Hd2.out.trans (ha3.mono (by have := Hd2.out.size; omega)))
      clear ha3
      go_wp2_with fail
      refine (num_any _ _).mono ?_
      rintro e m3 ⟨rfl, hb3⟩
      have Hb3 := hide (Ha3.out.trans (hb3.mono (by have := Ha3.out.size; omega)))
      clear hb3
      go_wp2_with fail
      refine (op_any _ _ _ _ _).mono ?_
      rintro e o3 ⟨rfl, hc3⟩
      have Hre3 := hide (tw_re (op := 9) hc3)
      have hsz3 := Nat.le_trans (alloc_size _ _) hc3.size
      have Hc3 := hide ((Hb3.out.alloc Hb3.out.size _).trans (hc3.mono (by have := Hb3.out.size; have := alloc_size m3 (.cells #[.int .i64 1, .int .i64 a, .slice none 0 0, .int .i64 1, .int .i64 b, .slice none 0 0] 25); omega)))
      clear hc3
      go_wp2_with fail
      refine (dtrue_any (m3.heap.size + 1) none 0 0 [] (1 + 1 + 1) 9 0 (some ⟨m3.heap.size, 0, none⟩) 2 2 (twT 9 a b) 0 0 o3 nil_ok.1 nil_ok.2.1 nil_ok.2.2.1 hsz3 Hre3.out (nil_rv _ _) nil_ok.2.2.2).mono ?_
      rintro e t3 ⟨rfl, hd3⟩
      rw [tw_true (p := (a == b)) (by omega) Ba.out Bb.out rfl]
      have Hd3 := hide (Hc3.out.trans (hd3.mono (by have := Hc3.out.size; omega)))
      clear hd3 Hre3 hsz3
      go_wp2_with fail
      refine (awake_any _).mono ?_
      rintro e wz ⟨rfl, hbz⟩
      have Hf := hide (Hd3.out.trans (hbz.mono (by have := Hd3.out.size; omega)))
      clear hbz
      go_wp2_with fail
      go_ret
      exact ⟨rfl, Hf.out⟩
end Go.Proofs.Ytkjclofkfmkbdaa
