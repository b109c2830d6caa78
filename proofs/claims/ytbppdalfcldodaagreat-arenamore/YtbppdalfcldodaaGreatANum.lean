/- (*finds).number: the number of a vertex, the next one if it was not found before. -/
import Derived.Test.YtbppdalfcldodaaGreatAWords
import Derived.BigQuiet
import Derived.Deep.RegionHeld3
import Derived.Deep.RegionLaw
set_option maxRecDepth 100000
namespace Go.Proofs.YtbppdalfcldodaaGreat
open Go.RowKit Ex Go.WideMaps Go.Maps
set_option linter.unusedSimpArgs false
set_option linter.unusedVariables false

def NumPost (w : World) (lo F M : Nat) (s : SL) (l : List Vx) (x : Vx) (e : Ending) (w' : World) : Prop :=
  e = .returned (.int .i64 (numI (addV l x) x)) ∧ ∃ s' : SL, FS w' lo F M s' (addV l x) ∧ Fr (fsH F M s) (fsH F M s') w w'
theorem info57 : ∃ i, Tryz.prog.info? 57 = some i ∧ i.zero = some (.agg #[.int .i64 0, .int .i64 0, .int .i64 0]) ∧ i.size = 3 ∧ i.bytes = 24 := by
  have h : (Tryz.prog.info? 57).map (fun i => (i.zero, i.size, i.bytes)) = some (some (.agg #[.int .i64 0, .int .i64 0, .int .i64 0]), 3, 24) := by kernel_rfl
  cases hi : Tryz.prog.info? 57 with
  | none => rw [hi] at h; cases h
  | some i =>
    rw [hi] at h
    simp only [Option.map_some, Option.some.injEq, Prod.mk.injEq] at h
    exact ⟨i, rfl, h.1, h.2.1, h.2.2⟩
theorem below_drew {B : Nat} {u w : World} (h : Below B u w) : Below B u w.drew := ⟨h.os, h.tape, h.output, h.size, h.block⟩
theorem zero3A (w : World) : (zeroValue 3).run Tryz.prog w = .ok (.int .i64 0) w := by kernel_rfl
theorem box57 (w : World) (a b c : Int) (t : TypeId) : (w.alloc (.cells #[.int .i64 a, .int .i64 b, .int .i64 c] t)).cell? ⟨w.heap.size, 0, none⟩ = some (.int .i64 a) ∧ (w.alloc (.cells #[.int .i64 a, .int .i64 b, .int .i64 c] t)).cell? ⟨w.heap.size, 1, none⟩ = some (.int .i64 b) ∧ (w.alloc (.cells #[.int .i64 a, .int .i64 b, .int .i64 c] t)).cell? ⟨w.heap.size, 2, none⟩ = some (.int .i64 c) := by
  simp [go_sem]
set_option maxHeartbeats 2000000 in
theorem number_old (lo F M : Nat) (s : SL) (l : List Vx) (x : Vx) (w : World) (h : FS w lo F M s l) (hx : SmV x) (hm : x ∈ l) :
    Calls Tryz.prog 39 #[.pointer (some ⟨F, 0, none⟩), vxV x] w (NumPost w lo F M s l x) := by
  have hadd : addV l x = l := by unfold addV; rw [if_pos hm]
  have Hend : Hid (∀ w', Below w.heap.size w w' → NumPost w lo F M s l x (.returned (.int .i64 (numI l x))) w') := hide fun w' hb => by
    unfold NumPost; rw [hadd]
    exact ⟨rfl, s, h.below hb, Fr.of_below hb⟩
  obtain ⟨n, D, hn, hown, hnum⟩ := h.map
  obtain ⟨hhas, hat⟩ := hnum x hx
  have hat := hat hm
  rw [decide_eq_true hm] at hhas
  have hkey := key_of hx
  have hFl := (h.lt F (by simp [fsH]))
  generalize hv : numI l x = v at *
  obtain ⟨a, b, c⟩ := x
  have Hpost : Hid (NumPost w lo F M s l (a, b, c) = NumPost w lo F M s l (a, b, c)) := hide rfl
  have hb1 : Below w.heap.size w (w.alloc (.cells #[.int .i64 a, .int .i64 b, .int .i64 c] 57)) := (Below.refl _ _).alloc (Nat.le_refl _) _
  have Hb1 := hide hb1
  have hown1 := (hown.alloc (.cells #[.int .i64 a, .int .i64 b, .int .i64 c] 57)).drew
  obtain ⟨vv, ps, hrun, hvv⟩ := hown1.look_ok lawVx Tryz.underlying55 (zero3A _) (plainElem_int Tryz.underlying3 (by decide)) hkey
  rw [hhas] at hrun
  rw [hat] at hvv
  obtain ⟨v2, rfl, hv2, _⟩ := plainElem_int_inv Tryz.underlying3 hvv
  simp only [Prod.mk.injEq, DataW.lit.injEq, Lit.int.injEq, true_and] at hv2
  obtain ⟨rfl, _⟩ := hv2
  obtain ⟨c0, c1, f0⟩ := (h.below hb1).cells
  obtain ⟨d0, d1, d2⟩ := box57 w a b c 57
  simp only [vxV] at *
  clear hown hown1 hhas hat hkey hnum hn hm hx hadd h
  go_enter Tryz.func39, Tryz.ntmps39
  go_wp2_with fail
  go_region
  go_wp2_with fail
  go_ret
  exact Hend.out _ (below_drew Hb1.out)
theorem num_fin {w w4 w6 : World} {lo F M n gg cap : Nat} {s : SL} {l : List Vx} {x : Vx} {D : DataW Unit} {o : Obj} (h : FS w lo F M s l) (hf : Fr [M] [M] w w4) (hown : w4.ownsMap Tryz.prog 57 (plainElem (H := Unit) Tryz.prog 3) M (n + 1) D) (hn : n ≤ l.length) (hD : NumIs D (l ++ [x]))
    (hgrow : (w4.alloc o).drew.grownBy w6 s.v.ownBlock) (hat : s.v.ownBlock = some gg ∨ gg = w4.heap.size + 1) (hrow : w6.ownsRow lo 57 3 (.slice (some ⟨gg, 0, none⟩) (s.n + 1) cap) (s.n + 1) (vxs (l ++ [x]))) :
    FS (w6.setCell ⟨F, 0, none⟩ (.slice (some ⟨gg, 0, none⟩) (s.n + 1) cap)) lo F M ⟨some ⟨gg, 0, none⟩, s.n + 1, cap⟩ (l ++ [x]) ∧ Fr (fsH F M s) (fsH F M ⟨some ⟨gg, 0, none⟩, s.n + 1, cap⟩) w (w6.setCell ⟨F, 0, none⟩ (.slice (some ⟨gg, 0, none⟩) (s.n + 1) cap)) := by
  have hz := hf.size
  have hza : (w4.alloc o).drew.heap.size = w4.heap.size + 1 := by simp
  have hzg := hgrow.size
  have hF := h.lt F (by simp [fsH])
  have hM := h.lt M (by simp [fsH])
  have same : ∀ k, k < w4.heap.size → k ∉ s.own → w6.heap[k]? = w4.heap[k]? := fun k hk hne => by
    rw [hgrow.block k (by omega) (fun e => hne (own_mem.2 e.symm))]
    exact Below.heap_alloc w4 _ _ hk
  have hgF : gg ≠ F := by
    rcases hat with h1 | h1
    · exact (h.fr gg (own_mem.2 h1)).1
    · omega
  have hgM : gg ≠ M := by
    rcases hat with h1 | h1
    · exact (h.fr gg (own_mem.2 h1)).2
    · omega
  have hFo : F ∉ s.own := fun hm => (h.fr F hm).1 rfl
  have hMo : M ∉ s.own := fun hm => (h.fr M hm).2 rfl
  have hb4 : w4.heap[F]? = some (.cells #[s.v, .map (some M)] 78 (0, 0)) := hf.heap h.box (by simp; exact h.fm)
  have hb6 : w6.heap[F]? = some (.cells #[s.v, .map (some M)] 78 (0, 0)) := (same F (by omega) hFo).trans hb4
  refine ⟨⟨by rw [heap_setCell_same w6 F 0 _ 78 _ hb6]; rfl, ⟨n + 1, D, by simp; omega, ?_, hD⟩, ?_, by simp [h.len], h.fm, fun k hk => ?_⟩, hgrow.os.trans hf.os, hgrow.tape.trans hf.tape, hgrow.output.trans hf.output, by simp [World.setCell]; omega, fun k hk hn => ?_, fun k hk => ?_⟩
  · have h1 : w6.ownsMap Tryz.prog 57 (plainElem (H := Unit) Tryz.prog 3) M (n + 1) D := by
      obtain ⟨es, clock, hb, r⟩ := hown
      exact ⟨es, clock, (same M (by omega) hMo).trans hb, r⟩
    exact h1.setCell (fun e => h.fm e.symm) _
  · refine ⟨hrow.1, ?_⟩
    rcases hrow.2 with ⟨e, _⟩ | ⟨g, c2, cur, e, h4, h5, h6⟩
    · cases e
    · refine .inr ⟨g, c2, cur, e, h4, ?_, h6⟩
      injection e with e _ _
      injection e with e
      injection e with e
      subst e
      rw [Below.heap_setCell _ _ _ _ hgF]; exact h5
  · simp [SL.own] at hk; subst hk; exact ⟨hgF, hgM⟩
  · have h1 : k ≠ F ∧ k ≠ M ∧ k ∉ s.own := by simpa [fsH, not_or] using hn
    rw [Below.heap_setCell _ _ _ _ h1.1, same k (by omega) h1.2.2]
    exact hf.block k hk (by simp; exact h1.2.1)
  · unfold fsH at hk ⊢
    rw [List.mem_cons, List.mem_cons] at hk
    rcases hk with rfl | rfl | hk
    · exact .inl (by simp)
    · exact .inl (by simp)
    · simp [SL.own] at hk; subst hk
      rcases hat with h1 | h1
      · exact .inl (by rw [List.mem_cons, List.mem_cons]; exact .inr (.inr (own_mem.2 h1)))
      · exact .inr (by omega)
set_option maxHeartbeats 4000000 in
theorem number_new (lo F M : Nat) (s : SL) (l : List Vx) (x : Vx) (w : World) (h : FS w lo F M s l) (hx : SmV x) (hm : x ∉ l) (hl : l.length ≤ 4000) (hlo : lo ≤ w.heap.size) :
    Calls Tryz.prog 39 #[.pointer (some ⟨F, 0, none⟩), vxV x] w (NumPost w lo F M s l x) := by
  have hadd : addV l x = l ++ [x] := by unfold addV; rw [if_neg hm]
  have Hfs := hide h
  have Hm := hide hm
  have Hx := hide hx
  have hk := h.len
  obtain ⟨n, D, hn, hown, hnum⟩ := h.map
  have Hnum := hide (hnum.put hown.isMap hx hm)
  obtain ⟨hhas, _⟩ := hnum x hx
  rw [decide_eq_false hm] at hhas
  have hkey := key_of hx
  have Hkey := hide hkey
  have hFl := (h.lt F (by simp [fsH]))
  have hMl := (h.lt M (by simp [fsH]))
  have Hv : Hid (numI (addV l x) x = (s.n : Int)) := hide (by rw [hadd, numI_new hm, hk])
  have Hadd := hide hadd
  rw [← hk] at Hnum
  have Hk := hide hk
  obtain ⟨a, b, c⟩ := x
  obtain ⟨A, k, cap0⟩ := s
  simp only at hk Hv Hnum Hk
  have hkl : k ≤ 4000 := by omega
  have hnk : n ≤ k := by omega
  have Hnl := hide hn
  have hb1 : Below w.heap.size w (w.alloc (.cells #[.int .i64 a, .int .i64 b, .int .i64 c] 57)) := (Below.refl _ _).alloc (Nat.le_refl _) _
  have Hb1 := hide hb1
  have hown1 := (hown.alloc (.cells #[.int .i64 a, .int .i64 b, .int .i64 c] 57)).drew
  obtain ⟨vv, ps, hrun, hvv⟩ := hown1.look_ok lawVx Tryz.underlying55 (zero3A _) (plainElem_int Tryz.underlying3 (by decide)) hkey
  rw [hhas] at hrun
  obtain ⟨v2, rfl, _, _⟩ := plainElem_int_inv Tryz.underlying3 hvv
  obtain ⟨w4, hrun4, hown4, hgr4⟩ := hown1.drew.update lawVx Tryz.underlying55 (by unfold maxLen; omega) hkey (plainElem_int (a := (k : Int)) Tryz.underlying3 (WalkArith.wf_i64 (by omega)))
  have Hf4 : Hid (Fr [M] [M] w w4) := hide ((Fr.of_below (below_drew (below_drew hb1))).trans (Fr.of_grown (b := M) hgr4 (by simp)))
  have hz4 : w.heap.size + 1 ≤ w4.heap.size := by have := hgr4.size; simpa using this
  have Hown4 := hide hown4
  have Hc4 := hide (FS.cells (w := w4) (lo := lo) (F := F) (M := M) (s := ⟨A, k, cap0⟩) (l := l))
  have hbF4 : w4.heap[F]? = some (.cells #[(SL.mk A k cap0).v, .map (some M)] 78 (0, 0)) := Hf4.out.heap h.box (by simp; exact h.fm)
  have hbX4 : w4.heap[w.heap.size]? = some (.cells #[.int .i64 a, .int .i64 b, .int .i64 c] 57 (0, 0)) := by
    rw [hgr4.block w.heap.size (by simp) (fun e => by injection e with e; omega)]
    exact heap_alloc_new w _
  have hrow4 : w4.ownsRow lo 57 3 (.slice A k cap0) k (vxs l) := by
    have hr := h.row
    refine ⟨hr.1, ?_⟩
    rcases hr.2 with h4 | ⟨g, c2, cur, e, h4, h5, h6⟩
    · exact .inl h4
    · refine .inr ⟨g, c2, cur, e, h4, Hf4.out.heap h5 ?_, h6⟩
      simp
      exact (h.fr g (own_mem.2 (by rw [e]; rfl))).2
  have Hrow4 := hide hrow4
  have Hob : Hid (∀ j, (Value.slice A k cap0).ownBlock = some j → lo ≤ j ∧ j < w.heap.size ∧ j ≠ F) := hide (fun j hj => ⟨(h.row_lt j (own_mem.2 hj)).1, (h.row_lt j (own_mem.2 hj)).2, (h.fr j (own_mem.2 hj)).1⟩)
  obtain ⟨c0, c1, f0⟩ := (h.below hb1).cells
  obtain ⟨d0, d1, d2⟩ := box57 w a b c 57
  have e0 : w4.cell? ⟨F, 0, none⟩ = some (.slice A k cap0) := by rw [Lib.cell_of_heap hbF4]; rfl
  have e1 : w4.frozen? ⟨F, 0, none⟩ = false := frozen_of_row w4 F 0 _ 78 hbF4
  have g0 : w4.cell? ⟨w.heap.size, 0, none⟩ = some (.int .i64 a) := by rw [Lib.cell_of_heap hbX4]; rfl
  have g1 : w4.cell? ⟨w.heap.size, 1, none⟩ = some (.int .i64 b) := by rw [Lib.cell_of_heap hbX4]; rfl
  have g2 : w4.cell? ⟨w.heap.size, 2, none⟩ = some (.int .i64 c) := by rw [Lib.cell_of_heap hbX4]; rfl
  have Hrow4b : Hid ((w4.alloc (.cells #[.int .i64 a, .int .i64 b, .int .i64 c] 57)).ownsRow lo 57 3 (.slice A k cap0) k (vxs l)) := hide (hrow4.kept (World.grownBy_alloc w4 _ none) (by cases A <;> simp [Value.ownBlock]))
  have Hrow4a : Hid ((w4.alloc (.cells #[.int .i64 a, .int .i64 b, .int .i64 c] 57)).drew.ownsRow lo 57 3 (.slice A k cap0) k (vxs l)) := hide Hrow4b.out
  have k3 : ∀ o : Obj, (w4.alloc o).cell? ⟨F, 0, none⟩ = some (.slice A k cap0) := fun o => (World.cell?_alloc_lt _ _ _ (show F < w4.heap.size by omega)).trans e0
  obtain ⟨i0, hi0, hz0, hz1, hz2⟩ := info57
  have Hi0 := hide hi0; have Hz0 := hide hz0; have Hz1 := hide hz1; have Hz2 := hide hz2
  have hMs : M ≠ w.heap.size := by omega
  simp only [vxV, SL.v] at *
  clear hown hown1 hhas hkey hnum hn hm hx hadd h hvv hown4 hgr4 hrow4 hb1 hbF4 hbX4 hi0 hz0 hz1 hz2 hk Hc4
  go_enter Tryz.func39, Tryz.ntmps39
  go_wp2_with fail
  go_region
  go_wp2_with fail
  go_region
  clear hrun hrun4 c0 c1 f0 d0 d1 d2
  go_wp2_with fail
  go_region_law (first
    | (refine step_append_lies _ (by rfl) _ _ _ (by rfl) lo 57 i0 _ 3 24 Tryz.underlying36 Hi0.out Hz0.out Hz1.out Hz2.out rfl (by omega) (.slice A k cap0) k (vxs l) (by rfl) (by first | exact Hrow4a.out | exact Hrow4b.out)
        ⟨w4.heap.size, 0, none⟩ 1 1 [.int .i64 a, .int .i64 b, .int .i64 c] (by rfl) (by rfl) (World.news_of_block (cs := #[.int .i64 a, .int .i64 b, .int .i64 c]) (t := 57) (fr := (0, 0)) (heap_alloc_new w4 _)) (by simp [Value.oneCell'])
        (by omega) (by unfold maxLen; omega) (by omega) (by simp; omega) (w4.heap.size + 1) (by simp) ?_; intro gg cap w6 hown6 hgrow hat hlt6; have c6 : w6.cell? ⟨F, 0, none⟩ = some (.slice A k cap0) := (World.grownBy.cell_far hgrow ⟨F, 0, none⟩ (by simp; omega) (fun e => (Hob.out F e.symm).2.2 rfl)).trans ((World.cell?_alloc_lt _ _ _ (show F < w4.heap.size by omega)).trans e0); have z6 : w6.frozen? ⟨F, 0, none⟩ = false := (World.grownBy.frozen_far hgrow ⟨F, 0, none⟩ (by simp; omega) (fun e => (Hob.out F e.symm).2.2 rfl)).trans ((World.frozen?_of_block (a := ⟨F, 0, none⟩) (Below.heap_alloc w4 _ _ (show F < w4.heap.size by omega))).trans e1); have Hgrow := hide hgrow; have Hat := hide hat; have Hown6 := hide hown6; clear hgrow hat hown6))
  all_goals
    obtain ⟨hA, hB⟩ := num_fin (w4 := w4) (x := (a, b, c)) Hfs.out Hf4.out Hown4.out Hnl.out Hnum.out Hgrow.out Hat.out (by rw [← vxs_snoc]; exact Hown6.out)
    have HA := hide hA; have HB := hide hB
    clear hA hB
    go_wp2_with fail
    go_ret
    refine ⟨by rw [Hv.out]; rfl, ⟨some ⟨gg, 0, none⟩, k + 1, cap⟩, ?_, HB.out⟩
    rw [Hadd.out]; exact HA.out
theorem number_any (lo F M : Nat) (s : SL) (l : List Vx) (x : Vx) (w : World) (h : FS w lo F M s l) (hx : SmV x) (hl : l.length ≤ 4000) (hlo : lo ≤ w.heap.size) :
    Calls Tryz.prog 39 #[.pointer (some ⟨F, 0, none⟩), vxV x] w (NumPost w lo F M s l x) := by
  by_cases hm : x ∈ l
  · have := number_old lo F M s l x w h hx hm
    exact this
  · exact number_new lo F M s l x w h hx hm hl hlo
end Go.Proofs.YtbppdalfcldodaaGreat
