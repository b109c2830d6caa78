/- A page's variable: a line for a variable. -/
import Derived.Test.YtjpphjmehgflpaaGreatDoorGCmd
namespace Go.Proofs.YtjpphjmehgflpaaGreatDoor
open Go.RowKit Ex
set_option linter.unusedSimpArgs false
set_option linter.unusedVariables false
section
variable {a : Act} {w : World} {K : Act → World → Prop} {Q : Exit → Act → World → Prop} {d ty : Nat} {pos : String} {af : Array Edge}
set_option maxRecDepth 100000 in
set_option maxHeartbeats 1000000 in
theorem st_side {t : Nat} {q : Bool} (he : a.eval (.tmp t) = .bool q) (hK : K (a.put (some d) (.string (bytesOf (sideT q)))) w) : Oper.wp Tryz.prog ⟨some d, .call { callee := .value (.func 45), args := #[.tmp t], argTypes := #[4] }, ty, pos, af, none⟩ a w K Q := by
  have g0 : a.tmps[t]?.getD undef = .bool q := by simpa [Act.eval] using he
  unfold Oper.wp
  go_simp
  refine (side_any q w).mono ?_
  rintro e w' ⟨rfl, rfl⟩
  exact hK
end
theorem cat3 (x y z : ByteArray) : catB [x, y, z] = x.data.toList ++ (y.data.toList ++ z.data.toList) := by simp [catB]
theorem cat4 (x y z q : ByteArray) : catB [x, y, z, q] = x.data.toList ++ (y.data.toList ++ (z.data.toList ++ q.data.toList)) := by simp [catB]

set_option maxRecDepth 100000 in
set_option maxHeartbeats 2000000 in
theorem variable_any (B b : Nat) (s : SL) (bs : List UInt8) (v : Dom.V) (w : World) (hB : B ≤ w.heap.size) (hT : TB B w) (hv : v.may = 0) (hP : Pg B b s bs w) (hlen : bs.length + (varT v).length ≤ 140737488355328) :
    Calls Tryz.prog 24 #[.pointer (some ⟨b, 0, none⟩), .agg #[.string v.nm, .bool v.env, .int .i64 v.srt, .int .i64 v.lo, .int .i64 v.hi]] w (Wr B b s (bs ++ varT v) w) := by
  have hlt := hP.lt
  have hge := hP.ge
  have Hbx : Hid (KP B b w (w.alloc (.cells #[.string v.nm, .bool v.env, .int .i64 v.srt, .int .i64 v.lo, .int .i64 v.hi] 45))) := hide ((KP.refl _ _ _).alloc hB _)
  have Hp0 := hide (hP.alloc (.cells #[.string v.nm, .bool v.env, .int .i64 v.srt, .int .i64 v.lo, .int .i64 v.hi] 45))
  have HN : Hid ((w.alloc (.cells #[.string v.nm, .bool v.env, .int .i64 v.srt, .int .i64 v.lo, .int .i64 v.hi] 45)).heap.size = w.heap.size + 1) := hide (by simp)
  have Hblk : Hid ((w.alloc (.cells #[.string v.nm, .bool v.env, .int .i64 v.srt, .int .i64 v.lo, .int .i64 v.hi] 45)).heap[w.heap.size]? = some (.cells #[.string v.nm, .bool v.env, .int .i64 v.srt, .int .i64 v.lo, .int .i64 v.hi] 45 (0, 0))) := hide (heap_alloc_new _ _)
  have HT := hide hT
  have Hv := hide hv
  unfold varT at hlen ⊢
  simp only [List.length_append, List.length_cons, List.length_nil] at hlen
  have Hlen := hide hlen
  clear hlen hP hT hv
  go_enter Tryz.func24, Tryz.ntmps24
  go_wp2_with fail
  generalize w.alloc (.cells #[.string v.nm, .bool v.env, .int .i64 v.srt, .int .i64 v.lo, .int .i64 v.hi] 45) = w1 at *
  have hz1 := HN.out
  refine abs_act ?_
  intro a0 ha0
  have e0 : a0.eval (.tmp 0) = .pointer (some ⟨b, 0, none⟩) := by rw [ha0]; rfl
  have e3 : a0.eval (.tmp 3) = .pointer (some ⟨w.heap.size, 0, none⟩) := by rw [ha0]; rfl
  have hsz : 4 + 8 ≤ a0.tmps.size := by rw [ha0]; simp
  have Ha0 := hide ha0
  clear ha0
  refine region_last (n := 7) 4 (PJ [.is (.pointer (some ⟨b, 0, none⟩)), .is (.pointer (some ⟨w.heap.size, 1, none⟩)), .is (.bool v.env), .is (.string (bytesOf (sideT v.env))), .is (.pointer (some ⟨w.heap.size, 0, none⟩)), .is (.string v.nm), .row [bytesOf (sideT v.env), ⟨#[32]⟩, v.nm, ⟨#[32, 58, 32]⟩]]) (by kernel_rfl) hsz (by kernel_rfl) (pj_mono _) ?_ ?_
  · clear Ha0
    intro j o u w8 hj ho hb hdep
    have hz8 := hb.out.size
    have hx8 := (hb.out.block w.heap.size (by omega)).trans Hblk.out
    have x0 : w8.cell? ⟨w.heap.size, 0, none⟩ = some (.string v.nm) := by rw [Lib.cell_of_heap hx8]; rfl
    have x1 : w8.cell? ⟨w.heap.size, 1, none⟩ = some (.bool v.env) := by rw [Lib.cell_of_heap hx8]; rfl
    have hj2 : j = 0 ∨ j = 1 ∨ j = 2 ∨ j = 3 ∨ j = 4 ∨ j = 5 ∨ j = 6 := by omega
    clear hj
    rcases hj2 with rfl | rfl | rfl | rfl | rfl | rfl | rfl
    · simp at ho; subst ho
      exact st_move ((over_out (by omega)).trans e0) ⟨_, rfl, rfl, Below.refl _ _⟩
    · simp at ho; subst ho
      exact st_f51k 1 (.inl rfl) ((over_out (by omega)).trans e3) ⟨_, rfl, rfl, Below.refl _ _⟩
    · simp at ho; subst ho
      have d1 : u 1 = .pointer (some ⟨w.heap.size, 1, none⟩) := hdep ⟨1, .data⟩ (by simp) rfl
      exact st_l4 ((over_in (j := 1) (by omega) hsz).trans d1) x1 ⟨_, rfl, rfl, Below.refl _ _⟩
    · simp at ho; subst ho
      have d2 : u 2 = .bool v.env := hdep ⟨2, .data⟩ (by simp) rfl
      exact st_side ((over_in (j := 2) (by omega) hsz).trans d2) ⟨_, rfl, rfl, Below.refl _ _⟩
    · simp at ho; subst ho
      exact st_f51 ((over_out (by omega)).trans e3) ⟨_, rfl, rfl, Below.refl _ _⟩
    · simp at ho; subst ho
      have d4 : u 4 = .pointer (some ⟨w.heap.size, 0, none⟩) := hdep ⟨4, .data⟩ (by simp) rfl
      exact st_l9 ((over_in (j := 4) (by omega) hsz).trans d4) x0 ⟨_, rfl, rfl, Below.refl _ _⟩
    · simp at ho; subst ho
      have d3 : u 3 = .string (bytesOf (sideT v.env)) := hdep ⟨3, .data⟩ (by simp) rfl
      have d5 : u 5 = .string v.nm := hdep ⟨5, .data⟩ (by simp) rfl
      exact st_b4 ((over_in (j := 3) (by omega) hsz).trans d3) ((over_in (j := 5) (by omega) hsz).trans d5) ⟨_, rfl, ⟨w8.heap.size, rfl, heap_alloc_new _ _⟩, (Below.refl _ _).alloc (Nat.le_refl _) _⟩
  · intro o u w8 ho hv hb
    simp at ho; subst ho
    have hz8 := hb.out.size
    have q0 : u 0 = .pointer (some ⟨b, 0, none⟩) := hv 0 (by omega)
    obtain ⟨g, q6, hg⟩ : RowP w8 (u 6) [bytesOf (sideT v.env), ⟨#[32]⟩, v.nm, ⟨#[32, 58, 32]⟩] := hv 6 (by omega)
    have hP8 : Hid (Pg B b s bs w8) := hide (Hp0.out.below hb.out)
    have Hk8 : Hid (KP B b w w8) := hide (Hbx.out.trans (KP.of_below hb.out (by omega)))
    have Hx8 := hide ((hb.out.block w.heap.size (by omega)).trans Hblk.out)
    have hgb : g ≠ b := fun e => by
      subst e
      rcases hP8.out with ⟨_, _, h, _⟩ | ⟨_, _, h, _⟩ <;> (rw [hg] at h; injection h with h; injection h with _ h; exact absurd h (by decide))
    refine st_put (ss := [bytesOf (sideT v.env), ⟨#[32]⟩, v.nm, ⟨#[32, 58, 32]⟩]) ((over_in (j := 0) (by omega) hsz).trans q0) ((over_in (j := 6) (by omega) hsz).trans q6) rfl (by simp) hg hgb hP8.out (by rw [cat4]; have := Hlen.out; simp [bytesOf, Dom.V.key] at this ⊢; omega) (by omega) ?_
    intro w9 hp9 hk9
    rw [cat4] at hp9
    have Hp9 := hide hp9
    have Hk9 := hide (Hk8.out.trans hk9)
    have Hx9 := hide (hk9.at_ Hx8.out (by decide) (by omega))
    clear hp9 hk9 hP8 Hk8 hv hg q0 q6 Hx8
    have x2 : w9.cell? ⟨w.heap.size, 2, none⟩ = some (.int .i64 v.srt) := by rw [Lib.cell_of_heap Hx9.out]; rfl
    have hz9 := Hk9.out.size
    rw [over_puts, Ha0.out]
    simp only [putsV]
    by_cases hs : v.srt = 1
    · have hsb : (v.srt == 1) = true := by simp [hs]
      have Hr : Hid (rangeT v = [98, 111, 111, 108]) := hide (if_pos hs)
      clear hs
      go_wp2_with fail
      refine (put_any B b w9.heap.size s _ [bytesOf [98, 111, 111, 108]] 1 _ rfl (by decide) (heap_alloc_new _ _) (by omega) (Hp9.out.alloc _) (by rw [cat1]; have := Hlen.out; rw [Hr.out] at this; simp [bytesOf, Dom.V.key] at this ⊢; omega) (by simp; omega)).mono ?_
      rintro e w4 ⟨rfl, hp4, hk4⟩
      rw [cat1] at hp4
      have Hk4 : Hid (KP B b w w4) := hide ((Hk9.out.alloc (by omega) _).trans hk4)
      have Hp4 := hide hp4; clear hp4 hk4
      have hz4 := Hk4.out.size
      go_wp2_with fail
      refine (put_any B b w4.heap.size s _ [bytesOf [59, 10]] 1 _ rfl (by decide) (heap_alloc_new _ _) (by omega) (Hp4.out.alloc _) (by rw [cat1]; have := Hlen.out; rw [Hr.out] at this; simp [bytesOf, Dom.V.key] at this ⊢; omega) (by simp; omega)).mono ?_
      rintro e w5 ⟨rfl, hp5, hk5⟩
      rw [cat1] at hp5
      have Hk5 : Hid (KP B b w w5) := hide ((Hk4.out.alloc (by omega) _).trans hk5)
      have Hp5 := hide hp5; clear hp5 hk5
      go_wp2_with fail
      go_end0
      refine ⟨rfl, ?_, Hk5.out⟩
      have := Hp5.out
      rw [Hr.out]
      simp only [bytesOf, Dom.V.key, List.append_assoc] at this ⊢
      exact this
    · have hsb : (v.srt == 1) = false := by simp [hs]
      have Hr : Hid (rangeT v = Lib.itoa v.lo ++ ([46, 46] ++ Lib.itoa v.hi)) := hide (if_neg hs)
      have hrg : -1000 ≤ v.lo ∧ v.lo ≤ 1000 ∧ -1000 ≤ v.hi ∧ v.hi ≤ 1000 := by
        have h := Hv.out
        unfold Dom.V.may Dom.mayOfV at h
        rw [if_neg hs] at h
        split at h
        · split at h
          · rename_i h2; have := Dom.range_true h2; omega
          · cases h
        · cases h
      clear hs
      clear Ha0 e0 e3 hsz
      go_wp2_with fail
      refine abs_act ?_
      intro a1 ha1
      have e0 : a1.eval (.tmp 0) = .pointer (some ⟨b, 0, none⟩) := by rw [ha1]; rfl
      have e3 : a1.eval (.tmp 3) = .pointer (some ⟨w.heap.size, 0, none⟩) := by rw [ha1]; rfl
      have hsz : 18 + 9 ≤ a1.tmps.size := by rw [ha1]; simp
      have Ha1 := hide ha1
      clear ha1
      refine region_last (n := 8) 18 (PJ [.is (.pointer (some ⟨b, 0, none⟩)), .is (.pointer (some ⟨w.heap.size, 3, none⟩)), .is (.int .i64 v.lo), .is (.string ⟨(Lib.itoa v.lo).toArray⟩), .is (.pointer (some ⟨w.heap.size, 4, none⟩)), .is (.int .i64 v.hi), .is (.string ⟨(Lib.itoa v.hi).toArray⟩), .row [⟨(Lib.itoa v.lo).toArray⟩, ⟨#[46, 46]⟩, ⟨(Lib.itoa v.hi).toArray⟩]]) (by kernel_rfl) hsz (by kernel_rfl) (pj_mono _) ?_ ?_
      · clear Ha1
        intro j o u w8 hj ho hb hdep
        have hz8 := hb.out.size
        have hx8 := (hb.out.block w.heap.size (by have := (Array.getElem?_eq_some_iff.1 Hx9.out).1; exact this)).trans Hx9.out
        have x3 : w8.cell? ⟨w.heap.size, 3, none⟩ = some (.int .i64 v.lo) := by rw [Lib.cell_of_heap hx8]; rfl
        have x4 : w8.cell? ⟨w.heap.size, 4, none⟩ = some (.int .i64 v.hi) := by rw [Lib.cell_of_heap hx8]; rfl
        have hT8 : TB B w8 := HT.out.on (Hk9.out.1.trans (hb.out.mono (by omega)))
        have hj2 : j = 0 ∨ j = 1 ∨ j = 2 ∨ j = 3 ∨ j = 4 ∨ j = 5 ∨ j = 6 ∨ j = 7 := by omega
        clear hj
        rcases hj2 with rfl | rfl | rfl | rfl | rfl | rfl | rfl | rfl
        · simp at ho; subst ho
          exact st_move ((over_out (by omega)).trans e0) ⟨_, rfl, rfl, Below.refl _ _⟩
        · simp at ho; subst ho
          exact st_f51k 3 (.inr (.inl rfl)) ((over_out (by omega)).trans e3) ⟨_, rfl, rfl, Below.refl _ _⟩
        · simp at ho; subst ho
          have d1 : u 1 = .pointer (some ⟨w.heap.size, 3, none⟩) := hdep ⟨1, .data⟩ (by simp) rfl
          exact st_l3 ((over_in (j := 1) (by omega) hsz).trans d1) x3 ⟨_, rfl, rfl, Below.refl _ _⟩
        · simp at ho; subst ho
          have d2 : u 2 = .int .i64 v.lo := hdep ⟨2, .data⟩ (by simp) rfl
          exact st_itoa ((over_in (j := 2) (by omega) hsz).trans d2) hrg.1 hrg.2.1 hT8 (fun w' hb' => ⟨_, rfl, rfl, hb'⟩)
        · simp at ho; subst ho
          exact st_f51k 4 (.inr (.inr rfl)) ((over_out (by omega)).trans e3) ⟨_, rfl, rfl, Below.refl _ _⟩
        · simp at ho; subst ho
          have d4 : u 4 = .pointer (some ⟨w.heap.size, 4, none⟩) := hdep ⟨4, .data⟩ (by simp) rfl
          exact st_l3 ((over_in (j := 4) (by omega) hsz).trans d4) x4 ⟨_, rfl, rfl, Below.refl _ _⟩
        · simp at ho; subst ho
          have d5 : u 5 = .int .i64 v.hi := hdep ⟨5, .data⟩ (by simp) rfl
          exact st_itoa ((over_in (j := 5) (by omega) hsz).trans d5) hrg.2.2.1 hrg.2.2.2 hT8 (fun w' hb' => ⟨_, rfl, rfl, hb'⟩)
        · simp at ho; subst ho
          have d3 : u 3 = .string ⟨(Lib.itoa v.lo).toArray⟩ := hdep ⟨3, .data⟩ (by simp) rfl
          have d6 : u 6 = .string ⟨(Lib.itoa v.hi).toArray⟩ := hdep ⟨6, .data⟩ (by simp) rfl
          exact st_b3 ((over_in (j := 3) (by omega) hsz).trans d3) ((over_in (j := 6) (by omega) hsz).trans d6) ⟨_, rfl, ⟨w8.heap.size, rfl, heap_alloc_new _ _⟩, (Below.refl _ _).alloc (Nat.le_refl _) _⟩
      · intro o u w8 ho hv hb
        simp at ho; subst ho
        have hz8 := hb.out.size
        have q0 : u 0 = .pointer (some ⟨b, 0, none⟩) := hv 0 (by omega)
        obtain ⟨g, q7, hg⟩ : RowP w8 (u 7) [⟨(Lib.itoa v.lo).toArray⟩, ⟨#[46, 46]⟩, ⟨(Lib.itoa v.hi).toArray⟩] := hv 7 (by omega)
        have hP8 := hide (Hp9.out.below hb.out)
        have Hk8 : Hid (KP B b w w8) := hide (Hk9.out.trans (KP.of_below hb.out (by omega)))
        have hgb : g ≠ b := fun e => by
          subst e
          rcases hP8.out with ⟨_, _, h, _⟩ | ⟨_, _, h, _⟩ <;> (rw [hg] at h; injection h with h; injection h with _ h; exact absurd h (by decide))
        refine st_put (ss := [⟨(Lib.itoa v.lo).toArray⟩, ⟨#[46, 46]⟩, ⟨(Lib.itoa v.hi).toArray⟩]) ((over_in (j := 0) (by omega) hsz).trans q0) ((over_in (j := 7) (by omega) hsz).trans q7) rfl (by simp) hg hgb hP8.out (by rw [cat3]; have := Hlen.out; rw [Hr.out] at this; simp [bytesOf, Dom.V.key] at this ⊢; omega) (by omega) ?_
        intro w4 hp4 hk4
        rw [cat3] at hp4
        have Hp4 := hide hp4
        have Hk4 := hide (Hk8.out.trans hk4)
        clear hp4 hk4 hP8 Hk8 hv hg q0 q7
        have hz4 := Hk4.out.size
        rw [over_puts, Ha1.out]
        simp only [putsV]
        go_wp2_with fail
        refine (put_any B b w4.heap.size s _ [bytesOf [59, 10]] 1 _ rfl (by decide) (heap_alloc_new _ _) (by omega) (Hp4.out.alloc _) (by rw [cat1]; have := Hlen.out; rw [Hr.out] at this; simp [bytesOf, Dom.V.key] at this ⊢; omega) (by simp; omega)).mono ?_
        rintro e w5 ⟨rfl, hp5, hk5⟩
        rw [cat1] at hp5
        have Hk5 : Hid (KP B b w w5) := hide ((Hk4.out.alloc (by omega) _).trans hk5)
        have Hp5 := hide hp5; clear hp5 hk5
        go_wp2_with fail
        go_end0
        refine ⟨rfl, ?_, Hk5.out⟩
        have := Hp5.out
        rw [Hr.out]
        simp only [bytesOf, Dom.V.key, List.append_assoc] at this ⊢
        exact this
end Go.Proofs.YtjpphjmehgflpaaGreatDoor
