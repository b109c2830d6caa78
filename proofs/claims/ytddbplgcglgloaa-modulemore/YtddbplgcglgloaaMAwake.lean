/- The walk of parrylaw5's awake. -/
import Derived.Test.YtddbplgcglgloaaMDev
import Derived.Deep.RegionHeld3
namespace Go.Proofs.Ytddbplgcglgloaa
open Go.RowKit Ex
set_option linter.unusedSimpArgs false
set_option linter.unusedVariables false

theorem small_same : modS (smallM (.mk 2 1 [])) (smallM (.mk 2 1 [])) = true := by decide +kernel
theorem small_other : modS (smallM (.mk 2 1 [])) (smallM (.mk 4 0 [])) = false := by decide +kernel
theorem BlocksAre.below {w w' : World} {B N : Nat} {go gn : Int} (h : BlocksAre w N go gn) (hb : Below B w w') (hB : N + 10 ≤ B) : BlocksAre w' N go gn :=
  ⟨(hb.block _ (by omega)).trans h.1, (hb.block _ (by omega)).trans h.2.1, (hb.block _ (by omega)).trans h.2.2.1, (hb.block _ (by omega)).trans h.2.2.2.1, (hb.block _ (by omega)).trans h.2.2.2.2⟩
section
variable {W w' : World} {N : Nat} {go gn : Int}
theorem c_mod (hB : N + 10 ≤ W.heap.size) (Hbl : Hid (BlocksAre W N go gn)) (hs : Hid (Below W.heap.size W w')) : Calls Try.prog 8 #[.agg (smallC N).cells] w' fun e w'' => e = .returned (.int .i64 (modE (smallM (.mk go gn [])))) ∧ Hid (Below w'.heap.size w' w'') ∧ Hid (Below W.heap.size W w'') :=
  (dmod_any (N + 10) (smallC N) _ w' (Nat.le_trans hB hs.out.size) (small_rm (Hbl.out.below hs.out hB))).mono fun _ _ ⟨he, hb⟩ => ⟨he, hide hb, hide (hs.out.trans (hb.mono hs.out.size))⟩
theorem c_small (hs : Hid (Below W.heap.size W w')) : Calls Try.prog 23 #[] w' fun e w'' => ∃ M, e = .returned (.agg (smallC M).cells) ∧ M + 10 ≤ w''.heap.size ∧ Hid (BlocksAre w'' M 2 1) ∧ Hid (Below W.heap.size W w'') :=
  (small_any w').mono fun _ _ ⟨he, hw⟩ => ⟨w'.heap.size, he, by rw [hw, small_size]; exact Nat.le_refl _, by rw [hw]; exact hide (small_blocks w'), hide (hs.out.trans (by rw [hw]; exact (small_below w').mono hs.out.size))⟩
theorem c_same {M : Nat} {ho hn : Int} (hB : N + 10 ≤ W.heap.size) (Hbl : Hid (BlocksAre W N go gn)) (hM : M + 10 ≤ w'.heap.size) (Hbm : Hid (BlocksAre w' M ho hn)) (hs : Hid (Below W.heap.size W w')) : Calls Try.prog 11 #[.agg (smallC N).cells, .agg (smallC M).cells] w' fun e w'' => e = .returned (.bool (modS (smallM (.mk go gn [])) (smallM (.mk ho hn [])))) ∧ Hid (Below W.heap.size W w'') :=
  (dsame_any w'.heap.size (smallC N) (smallC M) _ _ w' (Nat.le_refl _) ((small_rm (Hbl.out.below hs.out hB)).more (Nat.le_trans hB hs.out.size)) ((small_rm Hbm.out).more hM)).mono fun _ _ ⟨he, hb⟩ => ⟨he, hide (hs.out.trans (hb.mono hs.out.size))⟩
end
theorem keep24 {W w' : World} {N1 N2 : Nat} (H1 : Hid (BoxM W (N1 + 10) (smallC N1))) (H2 : Hid (BoxM W (N2 + 10) (smallC N2))) (h1 : N1 + 10 < W.heap.size) (h2 : N2 + 10 < W.heap.size) (hs : Hid (Below W.heap.size W w')) : w'.cell? ⟨N1 + 10, 0, none⟩ = some (.slice (some ⟨N1 + 1, 0, none⟩) 2 2) ∧ w'.cell? ⟨N1 + 10, 1, none⟩ = some (.int .i64 2) ∧ w'.cell? ⟨N1 + 10, 2, none⟩ = some (.int .i64 1) ∧ w'.cell? ⟨N1 + 10, 3, none⟩ = some (.slice none 0 0) ∧ w'.cell? ⟨N1 + 10, 4, none⟩ = some (.int .i64 2) ∧ w'.cell? ⟨N1 + 10, 5, none⟩ = some (.int .i64 1) ∧ w'.cell? ⟨N1 + 10, 6, none⟩ = some (.slice none 0 0) ∧ w'.cell? ⟨N1 + 10, 7, none⟩ = some (.slice (some ⟨N1 + 6, 0, none⟩) 1 1) ∧ w'.cell? ⟨N1 + 10, 8, none⟩ = some (.slice (some ⟨N1 + 9, 0, none⟩) 1 1) ∧ w'.cell? ⟨N1 + 10, 9, none⟩ = some (.slice none 0 0) ∧ w'.cell? ⟨N1 + 10, 10, none⟩ = some (.slice none 0 0) ∧ w'.cell? ⟨N1 + 10, 11, none⟩ = some (.slice none 0 0) ∧ w'.cell? ⟨N2 + 10, 0, none⟩ = some (.slice (some ⟨N2 + 1, 0, none⟩) 2 2) ∧ w'.cell? ⟨N2 + 10, 1, none⟩ = some (.int .i64 2) ∧ w'.cell? ⟨N2 + 10, 2, none⟩ = some (.int .i64 1) ∧ w'.cell? ⟨N2 + 10, 3, none⟩ = some (.slice none 0 0) ∧ w'.cell? ⟨N2 + 10, 4, none⟩ = some (.int .i64 2) ∧ w'.cell? ⟨N2 + 10, 5, none⟩ = some (.int .i64 1) ∧ w'.cell? ⟨N2 + 10, 6, none⟩ = some (.slice none 0 0) ∧ w'.cell? ⟨N2 + 10, 7, none⟩ = some (.slice (some ⟨N2 + 6, 0, none⟩) 1 1) ∧ w'.cell? ⟨N2 + 10, 8, none⟩ = some (.slice (some ⟨N2 + 9, 0, none⟩) 1 1) ∧ w'.cell? ⟨N2 + 10, 9, none⟩ = some (.slice none 0 0) ∧ w'.cell? ⟨N2 + 10, 10, none⟩ = some (.slice none 0 0) ∧ w'.cell? ⟨N2 + 10, 11, none⟩ = some (.slice none 0 0) := by
  have a := H1.out.below hs.out h1
  have b := H2.out.below hs.out h2
  exact ⟨a 0 _ rfl, a 1 _ rfl, a 2 _ rfl, a 3 _ rfl, a 4 _ rfl, a 5 _ rfl, a 6 _ rfl, a 7 _ rfl, a 8 _ rfl, a 9 _ rfl, a 10 _ rfl, a 11 _ rfl, b 0 _ rfl, b 1 _ rfl, b 2 _ rfl, b 3 _ rfl, b 4 _ rfl, b 5 _ rfl, b 6 _ rfl, b 7 _ rfl, b 8 _ rfl, b 9 _ rfl, b 10 _ rfl, b 11 _ rfl⟩
set_option maxRecDepth 100000 in
set_option maxHeartbeats 8000000 in
theorem awake_any (w : World) : Calls Try.prog 9 #[] w fun e w' => e = .returned (.bool true) ∧ Below w.heap.size w w' := by
  go_enter Try.func9, Try.ntmps9
  go_wp2_with fail
  refine (small_any w).mono ?_
  rintro e w1 ⟨rfl, hw1⟩
  have hb1 := small_below w
  have hz1 := small_size w
  have hk1 := small_blocks w
  rw [← hw1] at hb1 hz1 hk1
  clear hw1
  generalize hN1 : w.heap.size = N1 at *
  have Hk1 : Hid (BlocksAre w1 N1 2 1) := hide hk1
  have hbA := (Below.refl w1.heap.size w1).alloc (Nat.le_refl _) (.cells (smallC N1).cells 28)
  have Hm1 := hide (boxM_new w1 (smallC N1))
  have hzA : w1.heap.size + 1 ≤ (w1.alloc (.cells (smallC N1).cells 28)).heap.size := by simp
  have Hb2 := hide (hb1.trans (hbA.mono (by omega)))
  have Hk2 := hide (Hk1.out.below hbA (by omega))
  clear hk1 hb1 hbA Hk1
  simp only [smallC, M8.cells, SL.v] at *
  go_wp2_with fail
  generalize hV1 : w1.alloc (.cells #[.slice (some ⟨N1 + 1, 0, none⟩) 2 2, .int .i64 2, .int .i64 1, .slice none 0 0, .int .i64 2, .int .i64 1, .slice none 0 0, .slice (some ⟨N1 + 6, 0, none⟩) 1 1, .slice (some ⟨N1 + 9, 0, none⟩) 1 1, .slice none 0 0, .slice none 0 0, .slice none 0 0] 28) = w2 at *
  clear hV1
  refine (small_any w2).mono ?_
  rintro e w3 ⟨rfl, hw3⟩
  have hb3 := small_below w2
  have hz3 := small_size w2
  have hk3 := small_blocks w2
  rw [← hw3] at hb3 hz3 hk3
  clear hw3
  have Hm3 := hide (Hm1.out.below hb3 (by omega))
  have Hb3 := hide (Hb2.out.trans (hb3.mono (by have := Hb2.out.size; omega)))
  have Hk3 := hide (Hk2.out.below hb3 (by omega))
  generalize hN2 : w2.heap.size = N2 at *
  have hN12 : N1 + 11 ≤ N2 := by omega
  have Hj3 : Hid (BlocksAre w3 N2 2 1) := hide hk3
  clear hk3 hb3 hN2 Hm1 Hb2 Hk2
  have a1 := heap_setCell_same _ _ 0 _ _ (.int .i64 4) Hj3.out.2.2.1
  have a2 := heap_setCell_same _ _ 1 _ _ (.int .i64 0) a1
  have a3 := heap_setCell_same _ _ 2 _ _ (.slice none 0 0) a2
  have g0 : (w3.alloc (.cells #[.slice (some ⟨N2 + 1, 0, none⟩) 2 2, .int .i64 2, .int .i64 1, .slice none 0 0, .int .i64 2, .int .i64 1, .slice none 0 0, .slice (some ⟨N2 + 6, 0, none⟩) 1 1, .slice (some ⟨N2 + 9, 0, none⟩) 1 1, .slice none 0 0, .slice none 0 0, .slice none 0 0] 28)).cell? ⟨N2 + 6, 0, none⟩ = some (.int .i64 2) := blk (up_at Hj3.out.2.2.1) rfl
  have g1 : ((w3.setCell ⟨N2 + 6, 0, none⟩ (.int .i64 4)).alloc (.cells #[.slice (some ⟨N2 + 1, 0, none⟩) 2 2, .int .i64 2, .int .i64 1, .slice none 0 0, .int .i64 2, .int .i64 1, .slice none 0 0, .slice (some ⟨N2 + 6, 0, none⟩) 1 1, .slice (some ⟨N2 + 9, 0, none⟩) 1 1, .slice none 0 0, .slice none 0 0, .slice none 0 0] 28)).cell? ⟨N2 + 6, 1, none⟩ = some (.int .i64 1) := blk (up_at a1) rfl
  have g2 : (((w3.setCell ⟨N2 + 6, 0, none⟩ (.int .i64 4)).setCell ⟨N2 + 6, 1, none⟩ (.int .i64 0)).alloc (.cells #[.slice (some ⟨N2 + 1, 0, none⟩) 2 2, .int .i64 2, .int .i64 1, .slice none 0 0, .int .i64 2, .int .i64 1, .slice none 0 0, .slice (some ⟨N2 + 6, 0, none⟩) 1 1, .slice (some ⟨N2 + 9, 0, none⟩) 1 1, .slice none 0 0, .slice none 0 0, .slice none 0 0] 28)).cell? ⟨N2 + 6, 2, none⟩ = some (.slice none 0 0) := blk (up_at a2) rfl
  have z0 : (w3.alloc (.cells #[.slice (some ⟨N2 + 1, 0, none⟩) 2 2, .int .i64 2, .int .i64 1, .slice none 0 0, .int .i64 2, .int .i64 1, .slice none 0 0, .slice (some ⟨N2 + 6, 0, none⟩) 1 1, .slice (some ⟨N2 + 9, 0, none⟩) 1 1, .slice none 0 0, .slice none 0 0, .slice none 0 0] 28)).frozen? ⟨N2 + 6, 0, none⟩ = false := frozen_of_row _ _ 0 _ _ (up_at Hj3.out.2.2.1)
  have z1 : ((w3.setCell ⟨N2 + 6, 0, none⟩ (.int .i64 4)).alloc (.cells #[.slice (some ⟨N2 + 1, 0, none⟩) 2 2, .int .i64 2, .int .i64 1, .slice none 0 0, .int .i64 2, .int .i64 1, .slice none 0 0, .slice (some ⟨N2 + 6, 0, none⟩) 1 1, .slice (some ⟨N2 + 9, 0, none⟩) 1 1, .slice none 0 0, .slice none 0 0, .slice none 0 0] 28)).frozen? ⟨N2 + 6, 1, none⟩ = false := frozen_of_row _ _ 1 _ _ (up_at a1)
  have z2 : (((w3.setCell ⟨N2 + 6, 0, none⟩ (.int .i64 4)).setCell ⟨N2 + 6, 1, none⟩ (.int .i64 0)).alloc (.cells #[.slice (some ⟨N2 + 1, 0, none⟩) 2 2, .int .i64 2, .int .i64 1, .slice none 0 0, .int .i64 2, .int .i64 1, .slice none 0 0, .slice (some ⟨N2 + 6, 0, none⟩) 1 1, .slice (some ⟨N2 + 9, 0, none⟩) 1 1, .slice none 0 0, .slice none 0 0, .slice none 0 0] 28)).frozen? ⟨N2 + 6, 2, none⟩ = false := frozen_of_row _ _ 2 _ _ (up_at a2)
  have h6 : ((((w3.setCell ⟨N2 + 6, 0, none⟩ (.int .i64 4)).setCell ⟨N2 + 6, 1, none⟩ (.int .i64 0)).setCell ⟨N2 + 6, 2, none⟩ (.slice none 0 0)).alloc (.cells #[.slice (some ⟨N2 + 1, 0, none⟩) 2 2, .int .i64 2, .int .i64 1, .slice none 0 0, .int .i64 2, .int .i64 1, .slice none 0 0, .slice (some ⟨N2 + 6, 0, none⟩) 1 1, .slice (some ⟨N2 + 9, 0, none⟩) 1 1, .slice none 0 0, .slice none 0 0, .slice none 0 0] 28)).heap[N2 + 6]? = some (.cells (cmdC 4 0 (N2 + 5)) 31 (0, 0)) := up_at a3
  have hs3 : (((w3.setCell ⟨N2 + 6, 0, none⟩ (.int .i64 4)).setCell ⟨N2 + 6, 1, none⟩ (.int .i64 0)).setCell ⟨N2 + 6, 2, none⟩ (.slice none 0 0)).heap.size = w3.heap.size := by simp [World.setCell]
  have far : ∀ b, b < w3.heap.size → b ≠ N2 + 6 → ((((w3.setCell ⟨N2 + 6, 0, none⟩ (.int .i64 4)).setCell ⟨N2 + 6, 1, none⟩ (.int .i64 0)).setCell ⟨N2 + 6, 2, none⟩ (.slice none 0 0)).alloc (.cells #[.slice (some ⟨N2 + 1, 0, none⟩) 2 2, .int .i64 2, .int .i64 1, .slice none 0 0, .int .i64 2, .int .i64 1, .slice none 0 0, .slice (some ⟨N2 + 6, 0, none⟩) 1 1, .slice (some ⟨N2 + 9, 0, none⟩) 1 1, .slice none 0 0, .slice none 0 0, .slice none 0 0] 28)).heap[b]? = w3.heap[b]? := fun b hl hb => by
    rw [Below.heap_alloc _ _ _ (by rw [hs3]; exact hl), Below.heap_setCell _ _ _ _ (by exact hb), Below.heap_setCell _ _ _ _ (by exact hb), Below.heap_setCell _ _ _ _ (by exact hb)]
  have hz5a : N2 + 11 ≤ ((((w3.setCell ⟨N2 + 6, 0, none⟩ (.int .i64 4)).setCell ⟨N2 + 6, 1, none⟩ (.int .i64 0)).setCell ⟨N2 + 6, 2, none⟩ (.slice none 0 0)).alloc (.cells #[.slice (some ⟨N2 + 1, 0, none⟩) 2 2, .int .i64 2, .int .i64 1, .slice none 0 0, .int .i64 2, .int .i64 1, .slice none 0 0, .slice (some ⟨N2 + 6, 0, none⟩) 1 1, .slice (some ⟨N2 + 9, 0, none⟩) 1 1, .slice none 0 0, .slice none 0 0, .slice none 0 0] 28)).heap.size := by simp [World.setCell]; omega
  have Hn5 : Hid (BoxM ((((w3.setCell ⟨N2 + 6, 0, none⟩ (.int .i64 4)).setCell ⟨N2 + 6, 1, none⟩ (.int .i64 0)).setCell ⟨N2 + 6, 2, none⟩ (.slice none 0 0)).alloc (.cells #[.slice (some ⟨N2 + 1, 0, none⟩) 2 2, .int .i64 2, .int .i64 1, .slice none 0 0, .int .i64 2, .int .i64 1, .slice none 0 0, .slice (some ⟨N2 + 6, 0, none⟩) 1 1, .slice (some ⟨N2 + 9, 0, none⟩) 1 1, .slice none 0 0, .slice none 0 0, .slice none 0 0] 28)) (N2 + 10) (smallC N2)) := hide (by
    have h := boxM_new (((w3.setCell ⟨N2 + 6, 0, none⟩ (.int .i64 4)).setCell ⟨N2 + 6, 1, none⟩ (.int .i64 0)).setCell ⟨N2 + 6, 2, none⟩ (.slice none 0 0)) (smallC N2)
    rw [hs3, hz3] at h
    exact h)
  have Hb5 := hide (((((Hb3.out.setCell (p := ⟨N2 + 6, 0, none⟩) (by show N1 ≤ N2 + 6; omega) (.int .i64 4)).setCell (p := ⟨N2 + 6, 1, none⟩) (by show N1 ≤ N2 + 6; omega) (.int .i64 0)).setCell (p := ⟨N2 + 6, 2, none⟩) (by show N1 ≤ N2 + 6; omega) (.slice none 0 0))).alloc (by rw [hs3]; omega) (.cells #[.slice (some ⟨N2 + 1, 0, none⟩) 2 2, .int .i64 2, .int .i64 1, .slice none 0 0, .int .i64 2, .int .i64 1, .slice none 0 0, .slice (some ⟨N2 + 6, 0, none⟩) 1 1, .slice (some ⟨N2 + 9, 0, none⟩) 1 1, .slice none 0 0, .slice none 0 0, .slice none 0 0] 28))
  have Hfar := hide far
  have H6 := hide h6
  clear far h6 a1 a2 a3 hs3
  simp only [smallC, M8.cells, SL.v] at *
  go_wp2_with fail
  clear g0 g1 g2 z0 z1 z2
  generalize (((w3.setCell ⟨N2 + 6, 0, none⟩ (.int .i64 4)).setCell ⟨N2 + 6, 1, none⟩ (.int .i64 0)).setCell ⟨N2 + 6, 2, none⟩ (.slice none 0 0)).alloc (.cells #[.slice (some ⟨N2 + 1, 0, none⟩) 2 2, .int .i64 2, .int .i64 1, .slice none 0 0, .int .i64 2, .int .i64 1, .slice none 0 0, .slice (some ⟨N2 + 6, 0, none⟩) 1 1, .slice (some ⟨N2 + 9, 0, none⟩) 1 1, .slice none 0 0, .slice none 0 0, .slice none 0 0] 28) = w5 at *
  have Hk5 : Hid (BlocksAre w5 N1 2 1) := hide ⟨(Hfar.out _ (by omega) (by omega)).trans Hk3.out.1, (Hfar.out _ (by omega) (by omega)).trans Hk3.out.2.1, (Hfar.out _ (by omega) (by omega)).trans Hk3.out.2.2.1, (Hfar.out _ (by omega) (by omega)).trans Hk3.out.2.2.2.1, (Hfar.out _ (by omega) (by omega)).trans Hk3.out.2.2.2.2⟩
  have Hj5 : Hid (BlocksAre w5 N2 4 0) := hide ⟨(Hfar.out _ (by omega) (by omega)).trans Hj3.out.1, (Hfar.out _ (by omega) (by omega)).trans Hj3.out.2.1, H6.out, (Hfar.out _ (by omega) (by omega)).trans Hj3.out.2.2.2.1, (Hfar.out _ (by omega) (by omega)).trans Hj3.out.2.2.2.2⟩
  have Hm5 : Hid (BoxM w5 (N1 + 10) (smallC N1)) := hide (fun i v hv => (World.cell?_of_block (Hfar.out _ (by show N1 + 10 < w3.heap.size; omega) (by show N1 + 10 ≠ N2 + 6; omega))).trans (by rw [← hz1]; exact Hm3.out i v hv))
  clear Hfar H6 Hk3 Hj3 Hm3 Hb3
  have hB1 : N1 + 10 ≤ w5.heap.size := by omega
  have hB2 : N2 + 10 ≤ w5.heap.size := by omega
  have hM1 : N1 + 10 < w5.heap.size := by omega
  have hM2 : N2 + 10 < w5.heap.size := by omega
  have Hc8 : Hid (∀ (v : Value) (r : Int) (w' : World), (v = .agg (smallC N1).cells ∧ r = 0) ∨ (v = .agg (smallC N2).cells ∧ r = 5) → Hid (Below w5.heap.size w5 w') → Calls Try.prog 8 #[v] w' fun e w'' => e = .returned (.int .i64 r) ∧ Hid (Below w'.heap.size w' w'') ∧ Hid (Below w5.heap.size w5 w'')) := hide (by
    rintro v r w' (⟨rfl, rfl⟩ | ⟨rfl, rfl⟩) hs
    · exact (c_mod hB1 Hk5 hs).mono fun e w'' h => by rw [small_ok] at h; exact h
    · exact (c_mod hB2 Hj5 hs).mono fun e w'' h => by rw [small_next] at h; exact h)
  have Hc11 : Hid (∀ (v : Value) (r : Bool) (w' : World), (∃ M, v = .agg (smallC M).cells ∧ M + 10 ≤ w'.heap.size ∧ Hid (BlocksAre w' M 2 1) ∧ r = true) ∨ (v = .agg (smallC N2).cells ∧ r = false) → Hid (Below w5.heap.size w5 w') → Calls Try.prog 11 #[.agg (smallC N1).cells, v] w' fun e w'' => e = .returned (.bool r) ∧ Hid (Below w5.heap.size w5 w'')) := hide (by
    rintro v r w' (⟨M, rfl, hM, hbm, rfl⟩ | ⟨rfl, rfl⟩) hs
    · exact (c_same hB1 Hk5 hM hbm hs).mono fun e w'' h => by rw [small_same] at h; exact h
    · exact (c_same hB1 Hk5 (Nat.le_trans hB2 hs.out.size) (hide (Hj5.out.below hs.out hB2)) hs).mono fun e w'' h => by rw [small_other] at h; exact h)
  have Hdr : Hid (Below w5.heap.size w5 w5.drew) := hide (Below.refl _ _).drew
  go_region_held3 (fun w' => w'.cell? ⟨N1 + 10, 0, none⟩ = some (.slice (some ⟨N1 + 1, 0, none⟩) 2 2) ∧ w'.cell? ⟨N1 + 10, 1, none⟩ = some (.int .i64 2) ∧ w'.cell? ⟨N1 + 10, 2, none⟩ = some (.int .i64 1) ∧ w'.cell? ⟨N1 + 10, 3, none⟩ = some (.slice none 0 0) ∧ w'.cell? ⟨N1 + 10, 4, none⟩ = some (.int .i64 2) ∧ w'.cell? ⟨N1 + 10, 5, none⟩ = some (.int .i64 1) ∧ w'.cell? ⟨N1 + 10, 6, none⟩ = some (.slice none 0 0) ∧ w'.cell? ⟨N1 + 10, 7, none⟩ = some (.slice (some ⟨N1 + 6, 0, none⟩) 1 1) ∧ w'.cell? ⟨N1 + 10, 8, none⟩ = some (.slice (some ⟨N1 + 9, 0, none⟩) 1 1) ∧ w'.cell? ⟨N1 + 10, 9, none⟩ = some (.slice none 0 0) ∧ w'.cell? ⟨N1 + 10, 10, none⟩ = some (.slice none 0 0) ∧ w'.cell? ⟨N1 + 10, 11, none⟩ = some (.slice none 0 0) ∧ w'.cell? ⟨N2 + 10, 0, none⟩ = some (.slice (some ⟨N2 + 1, 0, none⟩) 2 2) ∧ w'.cell? ⟨N2 + 10, 1, none⟩ = some (.int .i64 2) ∧ w'.cell? ⟨N2 + 10, 2, none⟩ = some (.int .i64 1) ∧ w'.cell? ⟨N2 + 10, 3, none⟩ = some (.slice none 0 0) ∧ w'.cell? ⟨N2 + 10, 4, none⟩ = some (.int .i64 2) ∧ w'.cell? ⟨N2 + 10, 5, none⟩ = some (.int .i64 1) ∧ w'.cell? ⟨N2 + 10, 6, none⟩ = some (.slice none 0 0) ∧ w'.cell? ⟨N2 + 10, 7, none⟩ = some (.slice (some ⟨N2 + 6, 0, none⟩) 1 1) ∧ w'.cell? ⟨N2 + 10, 8, none⟩ = some (.slice (some ⟨N2 + 9, 0, none⟩) 1 1) ∧ w'.cell? ⟨N2 + 10, 9, none⟩ = some (.slice none 0 0) ∧ w'.cell? ⟨N2 + 10, 10, none⟩ = some (.slice none 0 0) ∧ w'.cell? ⟨N2 + 10, 11, none⟩ = some (.slice none 0 0))
    (first | exact keep24 Hm5 Hn5 hM1 hM2 (by assumption))
    (first
      | (go_at_call 8; refine (Hc8.out _ _ _ (by first | exact Or.inl ⟨rfl, rfl⟩ | exact Or.inr ⟨rfl, rfl⟩) (by assumption)).mono ?_; rintro e v1 ⟨rfl, hq1, hp1⟩)
      | (go_at_call 23; refine (c_small (by assumption)).mono ?_; rintro e v1 ⟨M, rfl, hM, hbm, hp1⟩)
      | (go_at_call 11; refine (Hc11.out _ _ _ (by first | exact Or.inl ⟨_, rfl, hM, hbm, rfl⟩ | exact Or.inr ⟨rfl, rfl⟩) (by assumption)).mono ?_; rintro e v1 ⟨rfl, hp1⟩))
  go_wp2_with fail
  go_ret
  exact ⟨rfl, by rw [hN1]; exact Hb5.out.trans (hp1.out.mono (by have := Hb5.out.size; omega))⟩
end Go.Proofs.Ytddbplgcglgloaa
