/- Not, And, Or, Count and Force of package pre. -/
import Derived.Test.YtnecihnhlkaajaaPRow
import Derived.Deep.CutRange
import Derived.Deep.Cut
namespace Go.Proofs.Ytnecihnhlkaajaa.Gr
open Go.RowKit
open Go.Sort (grow)
set_option linter.unusedSimpArgs false
set_option linter.unusedVariables false

def notL (n : Nat) (l : List Bool) : List Bool := (List.range n).map fun v => !(l.getD v false)
def andL (n : Nat) (a b : List Bool) : List Bool := (List.range n).map fun v => a.getD v false && b.getD v false
def orL (n : Nat) (a b : List Bool) : List Bool := (List.range n).map fun v => a.getD v false || b.getD v false
def forceL (g : GT) (who : Int) (l : List Bool) : List Bool := if plB who = true ∧ mayG g = 0 then (List.range g.own.length).map (fAt g who l) else []
def countL (n : Nat) (l : List Bool) : Nat := (List.range n).countP fun v => l.getD v false
theorem RowPost.back {w w1 : World} {l : List Bool} {e : Ending} {w' : World} (hb : Below w.heap.size w w1) (h : RowPost w1 l e w') : RowPost w l e w' := by
  obtain ⟨s, he, hr, h1⟩ := h
  exact ⟨s, he, hr, hb.trans (h1.mono hb.size)⟩
theorem new_at {w : World} {o : Obj} {k : Nat} (h : w.heap.size = k) : (w.alloc o).heap[k]? = some o := by subst h; exact heap_alloc_new w o
theorem size_al (w : World) (o : Obj) : (w.alloc o).heap.size = w.heap.size + 1 := by simp
theorem cell_blk {w : World} {b t : Nat} {cs : Array Value} {f : Nat × Nat} {i : Nat} {v : Value} (h : w.heap[b]? = some (.cells cs t f)) (hv : cs[i]? = some v) : w.cell? ⟨b, i, none⟩ = some v := by simp [World.cell?, h, hv]
theorem dnot_any (B : Nat) (OA NA : Option Addr) (on oc nn nc : Nat) (g : GT) (A : Option Addr) (n c : Nat) (l : List Bool) (w : World) (hB : B ≤ w.heap.size) (hg : RG w B ⟨OA, on, oc⟩ ⟨NA, nn, nc⟩ g) (hr : RB w B ⟨A, n, c⟩ l) (hm : on ≤ 2 ^ 48) :
    Calls Try.prog 9 #[.agg #[.slice OA on oc, .slice NA nn nc], .slice A n c] w (RowPost w (notL on l)) := by
  have hb : Below w.heap.size w ((w.alloc (.cells #[.slice OA on oc, .slice NA nn nc] 25)).alloc (.cells #[.slice A n c] 26)) := ((Below.refl _ _).alloc (Nat.le_refl _) _).alloc (by simp) _
  have e1 := new_at (o := .cells #[.slice A n c] 26) (size_al w (.cells #[.slice OA on oc, .slice NA nn nc] 25))
  have hmf : ∀ (fn : Fn) (first cap : Array Value) (w : World), (Instr.makeFunc fn first cap).run Try.prog w = .ok (.func fn first cap) w := fun _ _ _ _ => rfl
  have Hb := hide hb
  have E1 := hide e1
  clear hb e1
  go_enter Try.func9, Try.ntmps9
  go_wp2_with fail
  clear hmf
  generalize (w.alloc (.cells #[.slice OA on oc, .slice NA nn nc] 25)).alloc (.cells #[.slice A n c] 26) = w1 at *
  have hl1 := cell_lt (cell_blk (i := 0) E1.out rfl)
  have hz := Hb.out.size
  refine (row21_any B OA NA on oc nn nc g (fun v => !(l.getD v false)) (w.heap.size + 1) w1 (by omega) (hg.below (Hb.out.mono hB)) hm (fun v X hX hv => (not1_any (B := B) ((hX.cell (p := ⟨w.heap.size + 1, 0, none⟩) hl1).trans (cell_blk E1.out rfl)) ((hr.below (Hb.out.mono hB)).below (hX.mono (by omega)))).mono fun e w' ⟨he, hw⟩ => ⟨he, hw ▸ Below.refl _ _⟩)).mono ?_
  rintro e w2 ⟨s, rfl, h1, h2⟩
  simp only [SL.v]
  go_wp2_with fail
  go_ret
  exact ⟨s, rfl, h1, Hb.out.trans (h2.mono hz)⟩
theorem dand_any (B : Nat) (OA NA : Option Addr) (on oc nn nc : Nat) (g : GT) (A : Option Addr) (n c : Nat) (l : List Bool) (A2 : Option Addr) (n2 c2 : Nat) (l2 : List Bool) (w : World) (hB : B ≤ w.heap.size) (hg : RG w B ⟨OA, on, oc⟩ ⟨NA, nn, nc⟩ g) (hr : RB w B ⟨A, n, c⟩ l) (hr2 : RB w B ⟨A2, n2, c2⟩ l2) (hm : on ≤ 2 ^ 48) :
    Calls Try.prog 10 #[.agg #[.slice OA on oc, .slice NA nn nc], .slice A n c, .slice A2 n2 c2] w (RowPost w (andL on l l2)) := by
  have hb : Below w.heap.size w (((w.alloc (.cells #[.slice OA on oc, .slice NA nn nc] 25)).alloc (.cells #[.slice A n c] 26)).alloc (.cells #[.slice A2 n2 c2] 26)) := (((Below.refl _ _).alloc (Nat.le_refl _) _).alloc (by simp) _).alloc (by simp; omega) _
  have e1 := (Below.heap_alloc _ (.cells #[.slice A2 n2 c2] 26) (w.heap.size + 1) (by rw [size_al, size_al]; omega)).trans (new_at (o := .cells #[.slice A n c] 26) (size_al w (.cells #[.slice OA on oc, .slice NA nn nc] 25)))
  have e2 : (((w.alloc (.cells #[.slice OA on oc, .slice NA nn nc] 25)).alloc (.cells #[.slice A n c] 26)).alloc (.cells #[.slice A2 n2 c2] 26)).heap[w.heap.size + 2]? = some (.cells #[.slice A2 n2 c2] 26) := new_at (by rw [size_al, size_al])
  have hmf : ∀ (fn : Fn) (first cap : Array Value) (w : World), (Instr.makeFunc fn first cap).run Try.prog w = .ok (.func fn first cap) w := fun _ _ _ _ => rfl
  have Hb := hide hb
  have E1 := hide e1
  have E2 := hide e2
  clear hb e1 e2
  go_enter Try.func10, Try.ntmps10
  go_wp2_with fail
  clear hmf
  generalize ((w.alloc (.cells #[.slice OA on oc, .slice NA nn nc] 25)).alloc (.cells #[.slice A n c] 26)).alloc (.cells #[.slice A2 n2 c2] 26) = w1 at *
  have hl1 := cell_lt (cell_blk (i := 0) E1.out rfl)
  have hl2 := cell_lt (cell_blk (i := 0) E2.out rfl)
  have hz := Hb.out.size
  refine (row23_any B OA NA on oc nn nc g (fun v => l.getD v false && l2.getD v false) (w.heap.size + 1) (w.heap.size + 2) w1 (by omega) (hg.below (Hb.out.mono hB)) hm (fun v X hX hv => (and1_any (B := B) ((hX.cell (p := ⟨w.heap.size + 1, 0, none⟩) hl1).trans (cell_blk E1.out rfl)) ((hr.below (Hb.out.mono hB)).below (hX.mono (by omega))) ((hX.cell (p := ⟨w.heap.size + 2, 0, none⟩) hl2).trans (cell_blk E2.out rfl)) ((hr2.below (Hb.out.mono hB)).below (hX.mono (by omega)))).mono fun e w' ⟨he, hw⟩ => ⟨he, hw ▸ Below.refl _ _⟩)).mono ?_
  rintro e w2 ⟨s, rfl, h1, h2⟩
  simp only [SL.v]
  go_wp2_with fail
  go_ret
  exact ⟨s, rfl, h1, Hb.out.trans (h2.mono hz)⟩
theorem dor_any (B : Nat) (OA NA : Option Addr) (on oc nn nc : Nat) (g : GT) (A : Option Addr) (n c : Nat) (l : List Bool) (A2 : Option Addr) (n2 c2 : Nat) (l2 : List Bool) (w : World) (hB : B ≤ w.heap.size) (hg : RG w B ⟨OA, on, oc⟩ ⟨NA, nn, nc⟩ g) (hr : RB w B ⟨A, n, c⟩ l) (hr2 : RB w B ⟨A2, n2, c2⟩ l2) (hm : on ≤ 2 ^ 48) :
    Calls Try.prog 11 #[.agg #[.slice OA on oc, .slice NA nn nc], .slice A n c, .slice A2 n2 c2] w (RowPost w (orL on l l2)) := by
  have hb : Below w.heap.size w (((w.alloc (.cells #[.slice OA on oc, .slice NA nn nc] 25)).alloc (.cells #[.slice A n c] 26)).alloc (.cells #[.slice A2 n2 c2] 26)) := (((Below.refl _ _).alloc (Nat.le_refl _) _).alloc (by simp) _).alloc (by simp; omega) _
  have e1 := (Below.heap_alloc _ (.cells #[.slice A2 n2 c2] 26) (w.heap.size + 1) (by rw [size_al, size_al]; omega)).trans (new_at (o := .cells #[.slice A n c] 26) (size_al w (.cells #[.slice OA on oc, .slice NA nn nc] 25)))
  have e2 : (((w.alloc (.cells #[.slice OA on oc, .slice NA nn nc] 25)).alloc (.cells #[.slice A n c] 26)).alloc (.cells #[.slice A2 n2 c2] 26)).heap[w.heap.size + 2]? = some (.cells #[.slice A2 n2 c2] 26) := new_at (by rw [size_al, size_al])
  have hmf : ∀ (fn : Fn) (first cap : Array Value) (w : World), (Instr.makeFunc fn first cap).run Try.prog w = .ok (.func fn first cap) w := fun _ _ _ _ => rfl
  have Hb := hide hb
  have E1 := hide e1
  have E2 := hide e2
  clear hb e1 e2
  go_enter Try.func11, Try.ntmps11
  go_wp2_with fail
  clear hmf
  generalize ((w.alloc (.cells #[.slice OA on oc, .slice NA nn nc] 25)).alloc (.cells #[.slice A n c] 26)).alloc (.cells #[.slice A2 n2 c2] 26) = w1 at *
  have hl1 := cell_lt (cell_blk (i := 0) E1.out rfl)
  have hl2 := cell_lt (cell_blk (i := 0) E2.out rfl)
  have hz := Hb.out.size
  refine (row24_any B OA NA on oc nn nc g (fun v => l.getD v false || l2.getD v false) (w.heap.size + 1) (w.heap.size + 2) w1 (by omega) (hg.below (Hb.out.mono hB)) hm (fun v X hX hv => (or1_any (B := B) ((hX.cell (p := ⟨w.heap.size + 1, 0, none⟩) hl1).trans (cell_blk E1.out rfl)) ((hr.below (Hb.out.mono hB)).below (hX.mono (by omega))) ((hX.cell (p := ⟨w.heap.size + 2, 0, none⟩) hl2).trans (cell_blk E2.out rfl)) ((hr2.below (Hb.out.mono hB)).below (hX.mono (by omega)))).mono fun e w' ⟨he, hw⟩ => ⟨he, hw ▸ Below.refl _ _⟩)).mono ?_
  rintro e w2 ⟨s, rfl, h1, h2⟩
  simp only [SL.v]
  go_wp2_with fail
  go_ret
  exact ⟨s, rfl, h1, Hb.out.trans (h2.mono hz)⟩
theorem count_succ (l : List Bool) (k : Nat) : countL (k + 1) l = countL k l + (if l.getD k false = true then 1 else 0) := by
  unfold countL
  rw [List.range_succ, List.countP_append]
  simp [List.countP_cons]
theorem count_le (l : List Bool) (k : Nat) : countL k l ≤ k := by
  have := List.countP_le_length (p := fun v => l.getD v false) (l := List.range k)
  simpa [countL] using this
theorem dcount_any (B : Nat) (OA NA : Option Addr) (on oc nn nc : Nat) (g : GT) (A : Option Addr) (n c : Nat) (l : List Bool) (w : World) (hB : B ≤ w.heap.size) (hg : RG w B ⟨OA, on, oc⟩ ⟨NA, nn, nc⟩ g) (hr : RB w B ⟨A, n, c⟩ l) :
    Calls Try.prog 13 #[.agg #[.slice OA on oc, .slice NA nn nc], .slice A n c] w fun e w' => e = .returned (.int .i64 (countL on l : Nat)) ∧ Below w.heap.size w w' := by
  have hbx : Below w.heap.size w (w.alloc (.cells #[.slice OA on oc, .slice NA nn nc] 25)) := (Below.refl _ _).alloc (Nat.le_refl _) _
  have hon : on ≤ 2 ^ 63 - 1 := Nat.le_trans hg.own.2.1 hg.own.2.2.1
  have Hr := hide (hr.below (hbx.mono hB))
  clear hr hg
  go_enter Try.func13, Try.ntmps13
  go_wp2_with fail
  generalize w.alloc (.cells #[.slice OA on oc, .slice NA nn nc] 25) = w1 at *
  go_loopw [5, 10] (fun s i wr => ∃ k : Nat, k ≤ on ∧ i = .int .i64 k ∧ s = .int .i64 (countL k l : Nat) ∧ wr = w1) (fun _ i _ => on - (intOf i).toNat)
  case atStart => exact ⟨0, Nat.zero_le _, rfl, rfl, rfl⟩
  case round =>
    obtain ⟨k, hk, rfl, rfl, rfl⟩ := hrel
    by_cases hlt : k < on
    · have hlt' : (k : Int) < (on : Int) := by omega
      have hcl := count_le l k
      have Hs := hide (count_succ l k)
      generalize countL k l = q at *
      go_wp2_with fail
      refine (isIn_any B A n c l k _ Hr.out).mono ?_
      rintro e w3 ⟨rfl, hw⟩
      rw [hw]
      clear hw
      cases hp : l.getD k false
      · have Hf : Hid (countL (k + 1) l = q) := hide (by rw [Hs.out, hp]; rfl)
        clear hp
        go_wp2_with fail
        go_roundw
        case rel => exact ⟨k + 1, by omega, by go_num, by rw [Hf.out], by trivial⟩
        case measure => simp [intOf]; omega
      · have Hf : Hid (countL (k + 1) l = q + 1) := hide (by rw [Hs.out, hp]; rfl)
        clear hp
        go_wp2_with fail
        go_roundw
        case rel => exact ⟨k + 1, by omega, by go_num, by rw [Hf.out]; go_num, by trivial⟩
        case measure => simp [intOf]; omega
    · have hlt' : ¬ (k : Int) < (on : Int) := by omega
      obtain rfl : k = on := by omega
      go_wp2_with fail
      go_ret
      exact ⟨rfl, hbx⟩
end Go.Proofs.Ytnecihnhlkaajaa.Gr
