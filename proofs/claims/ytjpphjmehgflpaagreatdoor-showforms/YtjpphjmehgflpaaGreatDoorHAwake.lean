/- parrylaw7's awake: a text that every program must know. -/
import Derived.Test.YtjpphjmehgflpaaGreatDoorHShowM
namespace Go.Proofs.YtjpphjmehgflpaaGreatDoor
open Go.RowKit Ex
set_option linter.unusedSimpArgs false
set_option linter.unusedVariables false

set_option maxHeartbeats 400000 in
theorem yes_any (w : World) : Calls Tryz.prog 14 #[] w fun e w' => e = .returned (.agg #[.int .i64 2, .int .i64 1, .slice none 0 0]) ∧ w' = w.alloc (.cells #[.int .i64 2, .int .i64 1, .slice none 0 0] 25) := by
  go_enter Tryz.func14, Tryz.ntmps14
  go_wp2
  refine bodyPost_ret (v := .agg #[.int .i64 2, .int .i64 1, .slice none 0 0]) (by simp [results, Tryz.results14, go_sem]) rfl ?_
  exact ⟨rfl, rfl⟩
def awV : Dom.V := ⟨⟨#[120]⟩, true, 1, 0, 0⟩
def awM : MT := ⟨[awV], .mk 2 1 [], .mk 2 1 [], [], [], [], [], []⟩
def awT : List UInt8 := [101, 110, 118, 32, 120, 32, 58, 32, 98, 111, 111, 108, 59, 10, 105, 110, 105, 116, 32, 101, 110, 118, 32, 116, 114, 117, 101, 59, 10, 105, 110, 105, 116, 32, 115, 121, 115, 32, 116, 114, 117, 101, 59, 10]
theorem aw_show : showM awM = awT := by decide +kernel
theorem aw_next : showE [awV] (.mk 4 0 []) = [120, 39] := by decide +kernel
theorem aw_bytes : bytesOf (showM awM) = ⟨#[101, 110, 118, 32, 120, 32, 58, 32, 98, 111, 111, 108, 59, 10, 105, 110, 105, 116, 32, 101, 110, 118, 32, 116, 114, 117, 101, 59, 10, 105, 110, 105, 116, 32, 115, 121, 115, 32, 116, 114, 117, 101, 59, 10]⟩ := by rw [aw_show]; rfl
theorem aw_bytes2 : bytesOf (showE [awV] (.mk 4 0 [])) = ⟨#[120, 39]⟩ := by rw [aw_next]; rfl
theorem rows_nil {α : Type} (P : World → Nat → Nat → Nat → α → Prop) (sz : Nat) (w : World) (B : Nat) : Rows P sz w B ⟨none, 0, 0⟩ [] :=
  ⟨rfl, Nat.le_refl _, by show 0 ≤ maxLen; omega, fun h => absurd h (Nat.lt_irrefl _), fun _ => rfl⟩
theorem aw_rv {w : World} {B g : Nat} (hg : g < B) (h : w.heap[g]? = some (.cells #[.string ⟨#[120]⟩, .bool true, .int .i64 1, .int .i64 0, .int .i64 0] 45 (0, 0))) : Dom.RV w B (some ⟨g, 0, none⟩) 1 [awV] :=
  ⟨rfl, fun _ => ⟨g, 0, rfl, hg, fun k v hv => by
    match k, hv with
    | 0, hv =>
      simp at hv; subst hv
      exact ⟨by rw [Lib.cell_of_heap h]; rfl, by rw [Lib.cell_of_heap h]; rfl, by rw [Lib.cell_of_heap h]; rfl, by rw [Lib.cell_of_heap h]; rfl, by rw [Lib.cell_of_heap h]; rfl⟩
    | k + 1, hv => simp at hv⟩⟩
def awX (g : Nat) : M8 := ⟨⟨some ⟨g, 0, none⟩, 1, 1⟩, ⟨2, 1, none, 0, 0⟩, ⟨2, 1, none, 0, 0⟩, ⟨none, 0, 0⟩, ⟨none, 0, 0⟩, ⟨none, 0, 0⟩, ⟨none, 0, 0⟩, ⟨none, 0, 0⟩⟩
theorem aw_ok (g : Nat) : OkVars ⟨some ⟨g, 0, none⟩, 1, 1⟩ [awV] :=
  ⟨by show 1 ≤ maxLen; unfold maxLen; omega, Nat.le_refl _, by show 1 ≤ maxLen; unfold maxLen; omega, fun v hv => by
    simp at hv; subst hv; show (1 : Nat) ≤ maxLen; unfold maxLen; omega⟩
theorem aw_rm {w : World} {B g : Nat} (hg : g < B) (h : w.heap[g]? = some (.cells #[.string ⟨#[120]⟩, .bool true, .int .i64 1, .int .i64 0, .int .i64 0] 45 (0, 0))) : RM w B (awX g) awM :=
  ⟨aw_ok g, aw_rv hg h, ⟨1, RE.leaf w B 0 2 1⟩, ⟨1, RE.leaf w B 0 2 1⟩, rows_nil _ _ _ _, rows_nil _ _ _ _, rows_nil _ _ _ _, rows_nil _ _ _ _, rows_nil _ _ _ _⟩

set_option maxHeartbeats 2000000 in
theorem awake_any (w : World) (hT : TB w.heap.size w) : Calls Tryz.prog 5 #[] w fun e w' => e = .returned (.bool true) ∧ Below w.heap.size w w' := by
  have HT := hide hT; clear hT
  go_enter Tryz.func5, Tryz.ntmps5
  go_wp2_with fail
  refine (yes_any _).mono ?_
  rintro e w1 ⟨rfl, rfl⟩
  go_wp2_with fail
  refine (yes_any _).mono ?_
  rintro e w2 ⟨rfl, rfl⟩
  go_wp2_with fail
  generalize hW : (((w.alloc _).alloc _).alloc _).alloc _ = W
  have Hb : Hid (Below w.heap.size w W) := hide (by
    rw [← hW]
    exact ((((Below.refl _ _).alloc (Nat.le_refl _) _).alloc (by simp only [World.size_alloc]; omega) _).alloc (by simp only [World.size_alloc]; omega) _).alloc (by simp only [World.size_alloc]; omega) _)
  have Hg : Hid (W.heap[w.heap.size]? = some (.cells #[.string ⟨#[120]⟩, .bool true, .int .i64 1, .int .i64 0, .int .i64 0] 45 (0, 0))) := hide (by
    rw [← hW, Lib.alloc_old _ _ _ (by simp only [World.size_alloc]; omega), Lib.alloc_old _ _ _ (by simp only [World.size_alloc]; omega), Lib.alloc_old _ _ _ (by simp only [World.size_alloc]; omega)]
    exact heap_alloc_new _ _)
  have Hz : Hid (W.heap.size = w.heap.size + 4) := hide (by rw [← hW]; simp only [World.size_alloc])
  have Hm : Hid (W.heap[w.heap.size + 3]? = some (.cells (awX w.heap.size).cells 28 (0, 0))) := hide (by
    rw [← hW]
    rw [← show (((w.alloc (.cells #[.string ⟨#[120]⟩, .bool true, .int .i64 1, .int .i64 0, .int .i64 0] 45)).alloc (.cells #[.int .i64 2, .int .i64 1, .slice none 0 0] 25)).alloc (.cells #[.int .i64 2, .int .i64 1, .slice none 0 0] 25)).heap.size = w.heap.size + 3 by simp only [World.size_alloc]]
    exact heap_alloc_new _ _)
  clear hW
  have hz := Hz.out
  refine (showM_any W.heap.size (awX w.heap.size) awM W (Nat.le_refl _) (aw_rm (by omega) Hg.out) (HT.out.up Hb.out)).mono ?_
  rintro e w3 ⟨rfl, hb3⟩
  rw [aw_bytes]
  have Hb3 := hide (Hb.out.trans (hb3.mono (by omega)))
  have Hg3 := hide ((hb3.block w.heap.size (by omega)).trans Hg.out)
  have hc : w3.cell? ⟨w.heap.size + 3, 0, none⟩ = some (.slice (some ⟨w.heap.size, 0, none⟩) 1 1) := by
    rw [Lib.cell_of_heap ((hb3.block (w.heap.size + 3) (by omega)).trans Hm.out)]; rfl
  have hz3 := hb3.size
  clear hb3 Hb Hg Hm
  go_wp2_with fail
  refine (showE_any w3.heap.size ⟨some ⟨w.heap.size, 0, none⟩, 1, 1⟩ [awV] 1 4 0 none 0 0 (.mk 4 0 []) w3 (aw_ok _) (Nat.le_refl _) (RE.leaf _ _ 0 4 0) (aw_rv (by omega) Hg3.out) (HT.out.up Hb3.out)).mono ?_
  rintro e w4 ⟨rfl, hb4⟩
  rw [aw_bytes2]
  have Hb4 := hide (Hb3.out.trans (hb4.mono (by omega)))
  clear hb4
  go_wp2_with fail
  go_ret
  exact ⟨rfl, Hb4.out⟩
end Go.Proofs.YtjpphjmehgflpaaGreatDoor
