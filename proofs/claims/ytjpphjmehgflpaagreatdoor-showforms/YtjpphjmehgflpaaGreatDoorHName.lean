/- A page's expr at a variable: its name is put onto the page. -/
import Derived.Test.YtjpphjmehgflpaaGreatDoorHRegion
namespace Go.Proofs.YtjpphjmehgflpaaGreatDoor
open Go.RowKit Ex
set_option linter.unusedSimpArgs false
set_option linter.unusedVariables false
section
variable (B b : Nat) (s : SL) (bs : List UInt8) (w : World) (A : Option Addr) (len cap : Nat)
set_option maxRecDepth 100000 in
set_option maxHeartbeats 2000000 in
theorem expr_var (k : Nat) (u : Dom.V) (vb off : Nat) (hk : k < s.n) (hA : s.A = some ⟨vb, off, none⟩) (hvb : vb < B) (hc : w.cell? ⟨vb, off + k * 5, none⟩ = some (.string u.nm)) (hB : B ≤ w.heap.size) (hP : Pg B b s bs w) (hlen : bs.length + u.nm.data.toList.length ≤ 140737488355328) :
    Calls Tryz.prog 16 #[.pointer (some ⟨b, 0, none⟩), .agg #[.int .i64 3, .int .i64 (k : Int), .slice A len cap]] w (Wr B b s (bs ++ u.nm.data.toList) w) := by
  have hlt := hP.lt
  have hge := hP.ge
  obtain ⟨sA, sn, sc⟩ := s
  simp only at hk hA
  subst hA
  have hv : w.cell? ⟨b, 0, none⟩ = some (.slice (some ⟨vb, off, none⟩) sn sc) := hP.vars
  have Hbx : Hid (KP B b w (w.alloc (.cells #[.int .i64 3, .int .i64 (k : Int), .slice A len cap] 25))) := hide ((KP.refl _ _ _).alloc hB _)
  have Hp0 := hide (hP.alloc (.cells #[.int .i64 3, .int .i64 (k : Int), .slice A len cap] 25))
  have HN : Hid ((w.alloc (.cells #[.int .i64 3, .int .i64 (k : Int), .slice A len cap] 25)).heap.size = w.heap.size + 1) := hide (by simp)
  have Hblk : Hid ((w.alloc (.cells #[.int .i64 3, .int .i64 (k : Int), .slice A len cap] 25)).heap[w.heap.size]? = some (.cells #[.int .i64 3, .int .i64 (k : Int), .slice A len cap] 25 (0, 0))) := hide (heap_alloc_new _ _)
  have Hv1 : Hid ((w.alloc (.cells #[.int .i64 3, .int .i64 (k : Int), .slice A len cap] 25)).cell? ⟨b, 0, none⟩ = some (.slice (some ⟨vb, off, none⟩) sn sc)) := hide ((World.cell?_of_block (Lib.alloc_old _ _ _ hlt)).trans hv)
  have Hc1 : Hid ((w.alloc (.cells #[.int .i64 3, .int .i64 (k : Int), .slice A len cap] 25)).cell? ⟨vb, off + k * 5, none⟩ = some (.string u.nm)) := hide ((World.cell?_of_block (Lib.alloc_old _ _ _ (by show vb < _; omega))).trans hc)
  have Hlen := hide hlen
  clear hlen hv hc hP
  go_enter Tryz.func16, Tryz.ntmps16
  go_wp2_with fail
  generalize w.alloc (.cells #[.int .i64 3, .int .i64 (k : Int), .slice A len cap] 25) = w1 at *
  have hz1 := HN.out
  refine abs_act ?_
  intro a0 ha0
  have e0 : a0.eval (.tmp 0) = .pointer (some ⟨b, 0, none⟩) := by rw [ha0]; rfl
  have e3 : a0.eval (.tmp 3) = .pointer (some ⟨w.heap.size, 0, none⟩) := by rw [ha0]; rfl
  have hsz : 43 + 12 ≤ a0.tmps.size := by rw [ha0]; simp
  have Ha0 := hide ha0
  clear ha0
  refine region_last (n := 11) 43 (PJ [.is (.pointer (some ⟨b, 0, none⟩)), .is (.pointer (some ⟨b, 0, none⟩)), .is (.pointer (some ⟨b, 0, none⟩)), .is (.pointer (some ⟨b, 0, none⟩)), .is (.slice (some ⟨vb, off, none⟩) sn sc), .is (.pointer (some ⟨w.heap.size, 1, none⟩)), .is (.int .i64 (k : Int)), .is (.pointer (some ⟨vb, off + k * 5, none⟩)), .is (.pointer (some ⟨vb, off + k * 5, none⟩)), .is (.string u.nm), .row [u.nm]]) (by kernel_rfl) hsz (by kernel_rfl) (pj_mono _) ?_ ?_
  · clear Ha0
    intro j o v w8 hj ho hb hdep
    have hz8 := hb.out.size
    have hv8 : w8.cell? ⟨b, 0, none⟩ = some (.slice (some ⟨vb, off, none⟩) sn sc) := (hb.out.cell (by show b < _; omega)).trans Hv1.out
    have hx8 : w8.cell? ⟨w.heap.size, 1, none⟩ = some (.int .i64 (k : Int)) := (hb.out.cell (by show w.heap.size < _; omega)).trans (box_of Hblk.out).2.1
    have hn8 : w8.cell? ⟨vb, off + k * 5, none⟩ = some (.string u.nm) := (hb.out.cell (by show vb < _; omega)).trans Hc1.out
    have hj2 : j = 0 ∨ j = 1 ∨ j = 2 ∨ j = 3 ∨ j = 4 ∨ j = 5 ∨ j = 6 ∨ j = 7 ∨ j = 8 ∨ j = 9 ∨ j = 10 := by omega
    clear hj
    rcases hj2 with rfl | rfl | rfl | rfl | rfl | rfl | rfl | rfl | rfl | rfl | rfl
    · simp at ho; subst ho
      exact st_move ((over_out (by omega)).trans e0) ⟨_, rfl, rfl, Below.refl _ _⟩
    · simp at ho; subst ho
      exact st_move ((over_out (by omega)).trans e0) ⟨_, rfl, rfl, Below.refl _ _⟩
    · simp at ho; subst ho
      have d1 : v 1 = .pointer (some ⟨b, 0, none⟩) := hdep ⟨1, .data⟩ (by simp) rfl
      exact st_nil ((over_in (j := 1) (by omega) hsz).trans d1) ⟨_, rfl, rfl, Below.refl _ _⟩
    · simp at ho; subst ho
      have d2 : v 2 = .pointer (some ⟨b, 0, none⟩) := hdep ⟨2, .data⟩ (by simp) rfl
      exact st_f58 ((over_in (j := 2) (by omega) hsz).trans d2) ⟨_, rfl, rfl, Below.refl _ _⟩
    · simp at ho; subst ho
      have d3 : v 3 = .pointer (some ⟨b, 0, none⟩) := hdep ⟨3, .data⟩ (by simp) rfl
      exact st_l22 ((over_in (j := 3) (by omega) hsz).trans d3) hv8 ⟨_, rfl, rfl, Below.refl _ _⟩
    · simp at ho; subst ho
      exact st_f25 ((over_out (by omega)).trans e3) ⟨_, rfl, rfl, Below.refl _ _⟩
    · simp at ho; subst ho
      have d5 : v 5 = .pointer (some ⟨w.heap.size, 1, none⟩) := hdep ⟨5, .data⟩ (by simp) rfl
      exact st_l3 ((over_in (j := 5) (by omega) hsz).trans d5) hx8 ⟨_, rfl, rfl, Below.refl _ _⟩
    · simp at ho; subst ho
      have d4 : v 4 = .slice (some ⟨vb, off, none⟩) sn sc := hdep ⟨4, .data⟩ (by simp) rfl
      have d6 : v 6 = .int .i64 (k : Int) := hdep ⟨6, .data⟩ (by simp) rfl
      exact st_idx ((over_in (j := 4) (by omega) hsz).trans d4) ((over_in (j := 6) (by omega) hsz).trans d6) hk ⟨_, rfl, rfl, Below.refl _ _⟩
    · simp at ho; subst ho
      have d7 : v 7 = .pointer (some ⟨vb, off + k * 5, none⟩) := hdep ⟨7, .data⟩ (by simp) rfl
      exact st_f51 ((over_in (j := 7) (by omega) hsz).trans d7) ⟨_, rfl, rfl, Below.refl _ _⟩
    · simp at ho; subst ho
      have d8 : v 8 = .pointer (some ⟨vb, off + k * 5, none⟩) := hdep ⟨8, .data⟩ (by simp) rfl
      exact st_l9 ((over_in (j := 8) (by omega) hsz).trans d8) hn8 ⟨_, rfl, rfl, Below.refl _ _⟩
    · simp at ho; subst ho
      have d9 : v 9 = .string u.nm := hdep ⟨9, .data⟩ (by simp) rfl
      exact st_b1 ((over_in (j := 9) (by omega) hsz).trans d9) ⟨_, rfl, ⟨w8.heap.size, rfl, heap_alloc_new _ _⟩, (Below.refl _ _).alloc (Nat.le_refl _) _⟩
  · intro o v w8 ho hv hb
    simp at ho; subst ho
    have hz8 := hb.out.size
    have q0 : v 0 = .pointer (some ⟨b, 0, none⟩) := hv 0 (by omega)
    obtain ⟨g, q10, hg⟩ : RowP w8 (v 10) [u.nm] := hv 10 (by omega)
    have hP8 : Hid (Pg B b ⟨some ⟨vb, off, none⟩, sn, sc⟩ bs w8) := hide (Hp0.out.below hb.out)
    have Hk8 : Hid (KP B b w w8) := hide (Hbx.out.trans (KP.of_below hb.out (by omega)))
    have hgb : g ≠ b := fun e => by
      subst e
      rcases hP8.out with ⟨_, _, h, _⟩ | ⟨_, _, h, _⟩ <;> (rw [hg] at h; injection h with h; injection h with _ h; exact absurd h (by decide))
    refine st_put (ss := [u.nm]) ((over_in (j := 0) (by omega) hsz).trans q0) ((over_in (j := 10) (by omega) hsz).trans q10) rfl (by simp) hg hgb hP8.out (by rw [cat1]; exact Hlen.out) (by omega) ?_
    intro w9 hp9 hk9
    rw [cat1] at hp9
    have Hp9 := hide hp9
    have Hk9 := hide (Hk8.out.trans hk9)
    clear hp9 hk9 hP8 Hk8 hv hg q0 q10
    rw [over_puts, Ha0.out]
    simp only [putsV]
    go_wp2_with fail
    go_end0
    exact ⟨rfl, Hp9.out, Hk9.out⟩
set_option maxRecDepth 100000 in
set_option maxHeartbeats 2000000 in
theorem expr_nxt (k : Nat) (u : Dom.V) (vb off : Nat) (hk : k < s.n) (hA : s.A = some ⟨vb, off, none⟩) (hvb : vb < B) (hc : w.cell? ⟨vb, off + k * 5, none⟩ = some (.string u.nm)) (hB : B ≤ w.heap.size) (hP : Pg B b s bs w) (hlen : bs.length + (u.nm.data.toList ++ [39]).length ≤ 140737488355328) :
    Calls Tryz.prog 16 #[.pointer (some ⟨b, 0, none⟩), .agg #[.int .i64 4, .int .i64 (k : Int), .slice A len cap]] w (Wr B b s (bs ++ (u.nm.data.toList ++ [39])) w) := by
  have hlt := hP.lt
  have hge := hP.ge
  obtain ⟨sA, sn, sc⟩ := s
  simp only at hk hA
  subst hA
  have hv : w.cell? ⟨b, 0, none⟩ = some (.slice (some ⟨vb, off, none⟩) sn sc) := hP.vars
  have Hbx : Hid (KP B b w (w.alloc (.cells #[.int .i64 4, .int .i64 (k : Int), .slice A len cap] 25))) := hide ((KP.refl _ _ _).alloc hB _)
  have Hp0 := hide (hP.alloc (.cells #[.int .i64 4, .int .i64 (k : Int), .slice A len cap] 25))
  have HN : Hid ((w.alloc (.cells #[.int .i64 4, .int .i64 (k : Int), .slice A len cap] 25)).heap.size = w.heap.size + 1) := hide (by simp)
  have Hblk : Hid ((w.alloc (.cells #[.int .i64 4, .int .i64 (k : Int), .slice A len cap] 25)).heap[w.heap.size]? = some (.cells #[.int .i64 4, .int .i64 (k : Int), .slice A len cap] 25 (0, 0))) := hide (heap_alloc_new _ _)
  have Hv1 : Hid ((w.alloc (.cells #[.int .i64 4, .int .i64 (k : Int), .slice A len cap] 25)).cell? ⟨b, 0, none⟩ = some (.slice (some ⟨vb, off, none⟩) sn sc)) := hide ((World.cell?_of_block (Lib.alloc_old _ _ _ hlt)).trans hv)
  have Hc1 : Hid ((w.alloc (.cells #[.int .i64 4, .int .i64 (k : Int), .slice A len cap] 25)).cell? ⟨vb, off + k * 5, none⟩ = some (.string u.nm)) := hide ((World.cell?_of_block (Lib.alloc_old _ _ _ (by show vb < _; omega))).trans hc)
  have Hlen := hide hlen
  clear hlen hv hc hP
  go_enter Tryz.func16, Tryz.ntmps16
  go_wp2_with fail
  generalize w.alloc (.cells #[.int .i64 4, .int .i64 (k : Int), .slice A len cap] 25) = w1 at *
  have hz1 := HN.out
  refine abs_act ?_
  intro a0 ha0
  have e0 : a0.eval (.tmp 0) = .pointer (some ⟨b, 0, none⟩) := by rw [ha0]; rfl
  have e3 : a0.eval (.tmp 3) = .pointer (some ⟨w.heap.size, 0, none⟩) := by rw [ha0]; rfl
  have hsz : 57 + 12 ≤ a0.tmps.size := by rw [ha0]; simp
  have Ha0 := hide ha0
  clear ha0
  refine region_last (n := 11) 57 (PJ [.is (.pointer (some ⟨b, 0, none⟩)), .is (.pointer (some ⟨b, 0, none⟩)), .is (.pointer (some ⟨b, 0, none⟩)), .is (.pointer (some ⟨b, 0, none⟩)), .is (.slice (some ⟨vb, off, none⟩) sn sc), .is (.pointer (some ⟨w.heap.size, 1, none⟩)), .is (.int .i64 (k : Int)), .is (.pointer (some ⟨vb, off + k * 5, none⟩)), .is (.pointer (some ⟨vb, off + k * 5, none⟩)), .is (.string u.nm), .row [u.nm, ⟨#[39]⟩]]) (by kernel_rfl) hsz (by kernel_rfl) (pj_mono _) ?_ ?_
  · clear Ha0
    intro j o v w8 hj ho hb hdep
    have hz8 := hb.out.size
    have hv8 : w8.cell? ⟨b, 0, none⟩ = some (.slice (some ⟨vb, off, none⟩) sn sc) := (hb.out.cell (by show b < _; omega)).trans Hv1.out
    have hx8 : w8.cell? ⟨w.heap.size, 1, none⟩ = some (.int .i64 (k : Int)) := (hb.out.cell (by show w.heap.size < _; omega)).trans (box_of Hblk.out).2.1
    have hn8 : w8.cell? ⟨vb, off + k * 5, none⟩ = some (.string u.nm) := (hb.out.cell (by show vb < _; omega)).trans Hc1.out
    have hj2 : j = 0 ∨ j = 1 ∨ j = 2 ∨ j = 3 ∨ j = 4 ∨ j = 5 ∨ j = 6 ∨ j = 7 ∨ j = 8 ∨ j = 9 ∨ j = 10 := by omega
    clear hj
    rcases hj2 with rfl | rfl | rfl | rfl | rfl | rfl | rfl | rfl | rfl | rfl | rfl
    · simp at ho; subst ho
      exact st_move ((over_out (by omega)).trans e0) ⟨_, rfl, rfl, Below.refl _ _⟩
    · simp at ho; subst ho
      exact st_move ((over_out (by omega)).trans e0) ⟨_, rfl, rfl, Below.refl _ _⟩
    · simp at ho; subst ho
      have d1 : v 1 = .pointer (some ⟨b, 0, none⟩) := hdep ⟨1, .data⟩ (by simp) rfl
      exact st_nil ((over_in (j := 1) (by omega) hsz).trans d1) ⟨_, rfl, rfl, Below.refl _ _⟩
    · simp at ho; subst ho
      have d2 : v 2 = .pointer (some ⟨b, 0, none⟩) := hdep ⟨2, .data⟩ (by simp) rfl
      exact st_f58 ((over_in (j := 2) (by omega) hsz).trans d2) ⟨_, rfl, rfl, Below.refl _ _⟩
    · simp at ho; subst ho
      have d3 : v 3 = .pointer (some ⟨b, 0, none⟩) := hdep ⟨3, .data⟩ (by simp) rfl
      exact st_l22 ((over_in (j := 3) (by omega) hsz).trans d3) hv8 ⟨_, rfl, rfl, Below.refl _ _⟩
    · simp at ho; subst ho
      exact st_f25 ((over_out (by omega)).trans e3) ⟨_, rfl, rfl, Below.refl _ _⟩
    · simp at ho; subst ho
      have d5 : v 5 = .pointer (some ⟨w.heap.size, 1, none⟩) := hdep ⟨5, .data⟩ (by simp) rfl
      exact st_l3 ((over_in (j := 5) (by omega) hsz).trans d5) hx8 ⟨_, rfl, rfl, Below.refl _ _⟩
    · simp at ho; subst ho
      have d4 : v 4 = .slice (some ⟨vb, off, none⟩) sn sc := hdep ⟨4, .data⟩ (by simp) rfl
      have d6 : v 6 = .int .i64 (k : Int) := hdep ⟨6, .data⟩ (by simp) rfl
      exact st_idx ((over_in (j := 4) (by omega) hsz).trans d4) ((over_in (j := 6) (by omega) hsz).trans d6) hk ⟨_, rfl, rfl, Below.refl _ _⟩
    · simp at ho; subst ho
      have d7 : v 7 = .pointer (some ⟨vb, off + k * 5, none⟩) := hdep ⟨7, .data⟩ (by simp) rfl
      exact st_f51 ((over_in (j := 7) (by omega) hsz).trans d7) ⟨_, rfl, rfl, Below.refl _ _⟩
    · simp at ho; subst ho
      have d8 : v 8 = .pointer (some ⟨vb, off + k * 5, none⟩) := hdep ⟨8, .data⟩ (by simp) rfl
      exact st_l9 ((over_in (j := 8) (by omega) hsz).trans d8) hn8 ⟨_, rfl, rfl, Below.refl _ _⟩
    · simp at ho; subst ho
      have d9 : v 9 = .string u.nm := hdep ⟨9, .data⟩ (by simp) rfl
      exact st_b2 ((over_in (j := 9) (by omega) hsz).trans d9) ⟨_, rfl, ⟨w8.heap.size, rfl, heap_alloc_new _ _⟩, (Below.refl _ _).alloc (Nat.le_refl _) _⟩
  · intro o v w8 ho hv hb
    simp at ho; subst ho
    have hz8 := hb.out.size
    have q0 : v 0 = .pointer (some ⟨b, 0, none⟩) := hv 0 (by omega)
    obtain ⟨g, q10, hg⟩ : RowP w8 (v 10) [u.nm, ⟨#[39]⟩] := hv 10 (by omega)
    have hP8 : Hid (Pg B b ⟨some ⟨vb, off, none⟩, sn, sc⟩ bs w8) := hide (Hp0.out.below hb.out)
    have Hk8 : Hid (KP B b w w8) := hide (Hbx.out.trans (KP.of_below hb.out (by omega)))
    have hgb : g ≠ b := fun e => by
      subst e
      rcases hP8.out with ⟨_, _, h, _⟩ | ⟨_, _, h, _⟩ <;> (rw [hg] at h; injection h with h; injection h with _ h; exact absurd h (by decide))
    refine st_put (ss := [u.nm, ⟨#[39]⟩]) ((over_in (j := 0) (by omega) hsz).trans q0) ((over_in (j := 10) (by omega) hsz).trans q10) rfl (by simp) hg hgb hP8.out (by rw [cat2]; exact Hlen.out) (by omega) ?_
    intro w9 hp9 hk9
    rw [cat2] at hp9
    have Hp9 := hide hp9
    have Hk9 := hide (Hk8.out.trans hk9)
    clear hp9 hk9 hP8 Hk8 hv hg q0 q10
    rw [over_puts, Ha0.out]
    simp only [putsV]
    go_wp2_with fail
    go_end0
    exact ⟨rfl, Hp9.out, Hk9.out⟩
end
end Go.Proofs.YtjpphjmehgflpaaGreatDoor
