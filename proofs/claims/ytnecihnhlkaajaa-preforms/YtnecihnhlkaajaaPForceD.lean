/- The program's Force. -/
import Derived.Test.YtnecihnhlkaajaaPForce
namespace Go.Proofs.Ytnecihnhlkaajaa.Gr
open Go.RowKit
open Go.Sort (grow)
set_option linter.unusedSimpArgs false
set_option linter.unusedVariables false

theorem force_len {g : GT} {who : Int} {l : List Bool} (hm : mayG g = 0) (hp : plB who = true) : (forceL g who l).length = g.own.length := by unfold forceL; rw [if_pos ⟨hp, hm⟩]; simp
set_option maxHeartbeats 1000000 in
theorem dforce_any (B : Nat) (OA NA : Option Addr) (on oc nn nc : Nat) (g : GT) (who : Int) (A : Option Addr) (n c : Nat) (l : List Bool) (w : World) (hB : B ≤ w.heap.size) (hg : RG w B ⟨OA, on, oc⟩ ⟨NA, nn, nc⟩ g) (hr : RB w B ⟨A, n, c⟩ l) :
    Calls Try.prog 15 #[.agg #[.slice OA on oc, .slice NA nn nc], .int .i64 who, .slice A n c] w (RowPost w (forceL g who l)) := by
  have hb : Below w.heap.size w (((w.alloc (.cells #[.slice OA on oc, .slice NA nn nc] 25)).alloc (.cells #[.int .i64 who] 3)).alloc (.cells #[.slice A n c] 26)) := (((Below.refl _ _).alloc (Nat.le_refl _) _).alloc (by simp) _).alloc (by simp; omega) _
  have e0 := (Below.heap_alloc _ (.cells #[.slice A n c] 26) w.heap.size (by rw [size_al, size_al]; omega)).trans ((Below.heap_alloc _ (.cells #[.int .i64 who] 3) w.heap.size (by rw [size_al]; omega)).trans (new_at (w := w) (o := .cells #[.slice OA on oc, .slice NA nn nc] 25) rfl))
  have e1 := (Below.heap_alloc _ (.cells #[.slice A n c] 26) (w.heap.size + 1) (by rw [size_al, size_al]; omega)).trans (new_at (o := .cells #[.int .i64 who] 3) (size_al w (.cells #[.slice OA on oc, .slice NA nn nc] 25)))
  have e2 : (((w.alloc (.cells #[.slice OA on oc, .slice NA nn nc] 25)).alloc (.cells #[.int .i64 who] 3)).alloc (.cells #[.slice A n c] 26)).heap[w.heap.size + 2]? = some (.cells #[.slice A n c] 26) := new_at (by rw [size_al, size_al])
  have hmf : ∀ (fn : Fn) (first cap : Array Value) (w : World), (Instr.makeFunc fn first cap).run Try.prog w = .ok (.func fn first cap) w := fun _ _ _ _ => rfl
  have Hb := hide hb
  have E0 := hide e0
  have E1 := hide e1
  have E2 := hide e2
  clear hb e0 e1 e2
  have Hp : Hid (plB who = (who == 0 || who == 1)) := hide rfl
  go_enter Try.func15, Try.ntmps15
  cases h0 : who != 0
  all_goals cases h1 : who != 1
  case true.true =>
    have Hf : Hid (forceL g who l = []) := hide (by
      unfold forceL; rw [if_neg]; rintro ⟨h, _⟩; rw [Hp.out] at h; simp at h h0 h1; omega)
    go_wp2_with fail
    go_ret
    rw [Hf.out]
    exact row_nil Hb.out
  all_goals
    have HP : Hid (plB who = true) := hide (by rw [Hp.out]; simp at h0 h1 ⊢; omega)
    go_wp2_with fail
    clear h0 h1
    generalize ((w.alloc (.cells #[.slice OA on oc, .slice NA nn nc] 25)).alloc (.cells #[.int .i64 who] 3)).alloc (.cells #[.slice A n c] 26) = w1 at *
    have hl2 := cell_lt (cell_blk (i := 0) E2.out rfl)
    have hz := Hb.out.size
    refine (may_any B OA NA on oc nn nc g w1 (by omega) (hg.below (Hb.out.mono hB))).mono ?_
    rintro e w2 ⟨rfl, hb2⟩
    have hz2 := hb2.size
    have F0 := hide ((hb2.block _ (by omega)).trans E0.out)
    have F1 := hide ((hb2.block _ (by omega)).trans E1.out)
    have F2 := hide ((hb2.block _ (by omega)).trans E2.out)
    have Hb2 := hide (Hb.out.trans (hb2.mono hz))
    clear hb2 E0 E1 E2 Hb
    by_cases hm : mayG g = 0
    · have hm' : (mayG g != 0) = false := by simp [hm]
      obtain ⟨m1, m2, m3⟩ := may_facts hm
      have hl1' := hg.own.len
      have hl2' := hg.nxt.len
      simp only at hl1' hl2'
      obtain rfl : nn = on := by omega
      have Hf : Hid (forceL g who l = (List.range nn).map (fAt g who l)) := hide (by unfold forceL; rw [if_pos ⟨HP.out, hm⟩, hl1'])
      have Hm := hide hm
      have hon : nn ≤ 3000 := by omega
      clear hm m1 m2 m3 hl1' hl2'
      have c0 : w2.cell? ⟨w.heap.size, 0, none⟩ = some (.slice OA nn oc) := cell_blk F0.out rfl
      have c1 : w2.cell? ⟨w.heap.size, 1, none⟩ = some (.slice NA nn nc) := cell_blk F0.out rfl
      have hlw : w.heap.size < w2.heap.size := by omega
      have e3 := (Below.heap_alloc _ (.cells #[.func (.func 27) #[] #[.pointer (some ⟨w.heap.size + 1 + 1, 0, none⟩)]] 44) w2.heap.size (by rw [size_al]; omega)).trans (new_at (w := w2) (o := .cells #[.func (.func 26) #[] #[.pointer (some ⟨w.heap.size + 1 + 1, 0, none⟩)]] 44) rfl)
      have e4 : ((w2.alloc (.cells #[.func (.func 26) #[] #[.pointer (some ⟨w.heap.size + 1 + 1, 0, none⟩)]] 44)).alloc (.cells #[.func (.func 27) #[] #[.pointer (some ⟨w.heap.size + 1 + 1, 0, none⟩)]] 44)).heap[w2.heap.size + 1]? = some (.cells #[.func (.func 27) #[] #[.pointer (some ⟨w.heap.size + 1 + 1, 0, none⟩)]] 44) := new_at (by rw [size_al])
      have hb4 : Below w2.heap.size w2 ((w2.alloc (.cells #[.func (.func 26) #[] #[.pointer (some ⟨w.heap.size + 1 + 1, 0, none⟩)]] 44)).alloc (.cells #[.func (.func 27) #[] #[.pointer (some ⟨w.heap.size + 1 + 1, 0, none⟩)]] 44)) := ((Below.refl _ _).alloc (Nat.le_refl _) _).alloc (by simp) _
      have E3 := hide e3
      have E4 := hide e4
      have HB4 := hide hb4
      clear e3 e4 hb4
      go_wp2_with fail
      clear hmf
      generalize ((w2.alloc (.cells #[.func (.func 26) #[] #[.pointer (some ⟨w.heap.size + 1 + 1, 0, none⟩)]] 44)).alloc (.cells #[.func (.func 27) #[] #[.pointer (some ⟨w.heap.size + 1 + 1, 0, none⟩)]] 44)) = w4 at *
      have hb4 := HB4.out
      have hz4 := hb4.size
      have hbw4 := Hb2.out.trans (hb4.mono (Nat.le_of_lt hlw))
      have G0 := hide ((hb4.block _ hlw).trans F0.out)
      have G1 := hide ((hb4.block _ (by omega)).trans F1.out)
      have G2 := hide ((hb4.block _ (by omega)).trans F2.out)
      have q3 := cell_lt (cell_blk (i := 0) E3.out rfl)
      have q4 := cell_lt (cell_blk (i := 0) E4.out rfl)
      have Hrows := hide (fun (v : Nat) (r : List Int) (h : g.nxt[v]? = some r) => (may_row Hm.out h).2.2)
      refine (row28_any B OA NA nn oc nn nc g (fAt g who l) w.heap.size (w.heap.size + 1) w2.heap.size (w2.heap.size + 1) w4 (by omega) (hg.below (hbw4.mono hB)) (by omega)
        (fun v X hX hv => fr_any B w.heap.size (w.heap.size + 1) w2.heap.size (w2.heap.size + 1) (w.heap.size + 2) OA NA A nn oc nn nc n c g who l v X hv hv
          ((hX.cell (p := ⟨w.heap.size, 0, none⟩) (by show w.heap.size < _; omega)).trans (cell_blk G0.out rfl)) ((hX.cell (p := ⟨w.heap.size, 1, none⟩) (by show w.heap.size < _; omega)).trans (cell_blk G0.out rfl)) ((hX.cell (p := ⟨w.heap.size + 1, 0, none⟩) (by show w.heap.size + 1 < _; omega)).trans (cell_blk G1.out rfl))
          ((hX.cell (p := ⟨w2.heap.size, 0, none⟩) (by show w2.heap.size < _; omega)).trans (cell_blk E3.out rfl)) ((hX.cell (p := ⟨w2.heap.size + 1, 0, none⟩) (by show w2.heap.size + 1 < _; omega)).trans (cell_blk E4.out rfl)) ((hX.cell (p := ⟨w.heap.size + 2, 0, none⟩) (by show w.heap.size + 2 < _; omega)).trans (cell_blk G2.out rfl))
          ((hg.below (hbw4.mono hB)).below (hX.mono (by omega))) ((hr.below (hbw4.mono hB)).below (hX.mono (by omega))) (by have := hX.size; omega) (fun r h x hx => (Hrows.out v r h x hx).1))).mono ?_
      rintro e w5 ⟨s, rfl, h1, h2⟩
      simp only [SL.v]
      go_wp2_with fail
      go_ret
      rw [Hf.out]
      exact ⟨s, rfl, h1, hbw4.trans (h2.mono (by omega))⟩
    · have hm' : (mayG g != 0) = true := by simp [hm]
      have Hf : Hid (forceL g who l = []) := hide (by unfold forceL; rw [if_neg (fun h => hm h.2)])
      clear hm
      go_wp2_with fail
      go_ret
      rw [Hf.out]
      exact row_nil Hb2.out
end Go.Proofs.Ytnecihnhlkaajaa.Gr
