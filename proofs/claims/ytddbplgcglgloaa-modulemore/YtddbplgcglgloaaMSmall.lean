/- The walks of parrylaw5's yes and small: a module that may be, newly laid. -/
import Derived.Test.YtddbplgcglgloaaMHeavy
namespace Go.Proofs.Ytddbplgcglgloaa
open Go.RowKit Ex
set_option linter.unusedSimpArgs false
set_option linter.unusedVariables false

theorem yes_any (w : World) : Calls Try.prog 42 #[] w fun e w' => e = .returned (.agg #[.int .i64 2, .int .i64 1, .slice none 0 0]) ∧ w' = w.alloc (.cells #[.int .i64 2, .int .i64 1, .slice none 0 0] 25) := by
  go_enter Try.func42, Try.ntmps42
  go_wp2_with fail
  refine bodyPost_ret (v := .agg #[.int .i64 2, .int .i64 1, .slice none 0 0]) (by simp [results, Try.results42, go_sem]) rfl ?_
  exact ⟨rfl, rfl⟩
def varsC : Array Value := #[.string ⟨#[120]⟩, .bool true, .int .i64 1, .int .i64 0, .int .i64 0, .string ⟨#[121]⟩, .bool false, .int .i64 1, .int .i64 0, .int .i64 0]
def set1C : Array Value := #[.int .i64 0, .bool true, .int .i64 0, .int .i64 0, .slice none 0 0]
def set2C : Array Value := #[.int .i64 1, .bool false, .int .i64 4, .int .i64 0, .slice none 0 0]
def cmdC (go gn : Int) (n : Nat) : Array Value := #[.int .i64 go, .int .i64 gn, .slice none 0 0, .slice (some ⟨n, 0, none⟩) 1 1]
def yesC : Array Value := #[.int .i64 2, .int .i64 1, .slice none 0 0]
def smallC (N : Nat) : M8 := ⟨⟨some ⟨N + 1, 0, none⟩, 2, 2⟩, ⟨2, 1, none, 0, 0⟩, ⟨2, 1, none, 0, 0⟩, ⟨some ⟨N + 6, 0, none⟩, 1, 1⟩, ⟨some ⟨N + 9, 0, none⟩, 1, 1⟩, ⟨none, 0, 0⟩, ⟨none, 0, 0⟩, ⟨none, 0, 0⟩⟩
def smallW (w : World) : World := (((((((((w.alloc (.cells (smallC w.heap.size).cells 28)).alloc (.cells varsC 42)).alloc (.cells yesC 25)).alloc (.cells yesC 25)).alloc (.cells yesC 25)).alloc (.cells set1C 40)).alloc (.cells (cmdC 2 1 (w.heap.size + 5)) 31)).alloc (.cells yesC 25)).alloc (.cells set2C 40)).alloc (.cells (cmdC 2 1 (w.heap.size + 8)) 31)
set_option maxRecDepth 100000 in
set_option maxHeartbeats 4000000 in
theorem small_any (w : World) : Calls Try.prog 23 #[] w fun e w' => e = .returned (.agg (smallC w.heap.size).cells) ∧ w' = smallW w := by
  go_enter Try.func23, Try.ntmps23
  go_wp2_with fail
  refine (yes_any _).mono ?_
  rintro e w1 ⟨rfl, rfl⟩
  go_wp2_with fail
  refine (yes_any _).mono ?_
  rintro e w1 ⟨rfl, rfl⟩
  go_wp2_with fail
  refine (yes_any _).mono ?_
  rintro e w1 ⟨rfl, rfl⟩
  go_wp2_with fail
  refine (yes_any _).mono ?_
  rintro e w1 ⟨rfl, rfl⟩
  go_wp2_with fail
  refine bodyPost_ret (v := .agg (smallC w.heap.size).cells) ?_ rfl ⟨rfl, rfl⟩
  simp [results, Try.results23, go_sem, smallC, M8.cells, SL.v]
theorem small_size (w : World) : (smallW w).heap.size = w.heap.size + 10 := by simp [smallW]
theorem small_below (w : World) : Below w.heap.size w (smallW w) := by
  unfold smallW
  refine Below.alloc (Below.alloc (Below.alloc (Below.alloc (Below.alloc (Below.alloc (Below.alloc (Below.alloc (Below.alloc (Below.alloc (Below.refl _ _) ?_ _) ?_ _) ?_ _) ?_ _) ?_ _) ?_ _) ?_ _) ?_ _) ?_ _) ?_ _ <;> simp <;> omega
theorem up_at {w : World} {o c : Obj} {b : Nat} (h : w.heap[b]? = some c) : (w.alloc o).heap[b]? = some c :=
  (Below.heap_alloc w o b (Array.getElem?_eq_some_iff.1 h).1).trans h
theorem new_at {w : World} {o : Obj} {b : Nat} (h : w.heap.size = b) : (w.alloc o).heap[b]? = some o := by subst h; exact heap_alloc_new w o
theorem small_blocks (w : World) : (smallW w).heap[w.heap.size + 1]? = some (.cells varsC 42 (0, 0)) ∧ (smallW w).heap[w.heap.size + 5]? = some (.cells set1C 40 (0, 0)) ∧ (smallW w).heap[w.heap.size + 6]? = some (.cells (cmdC 2 1 (w.heap.size + 5)) 31 (0, 0)) ∧ (smallW w).heap[w.heap.size + 8]? = some (.cells set2C 40 (0, 0)) ∧ (smallW w).heap[w.heap.size + 9]? = some (.cells (cmdC 2 1 (w.heap.size + 8)) 31 (0, 0)) := by
  unfold smallW
  refine ⟨up_at (up_at (up_at (up_at (up_at (up_at (up_at (up_at (new_at ?_)))))))), up_at (up_at (up_at (up_at (new_at ?_)))), up_at (up_at (up_at (new_at ?_))), up_at (new_at ?_), new_at ?_⟩ <;> simp
/- the module, as data; its environment's guard may be another -/
def smallM (g : T) : MT := ⟨[⟨⟨#[120]⟩, true, 1, 0, 0⟩, ⟨⟨#[121]⟩, false, 1, 0, 0⟩], .mk 2 1 [], .mk 2 1 [], [⟨g, [⟨0, true, .mk 0 0 []⟩]⟩], [⟨.mk 2 1 [], [⟨1, false, .mk 4 0 []⟩]⟩], [], [], []⟩
theorem small_ok : modE (smallM (.mk 2 1 [])) = 0 := by decide +kernel
theorem small_next : modE (smallM (.mk 4 0 [])) = 5 := by decide +kernel
def BlocksAre (w : World) (N : Nat) (go gn : Int) : Prop := w.heap[N + 1]? = some (.cells varsC 42 (0, 0)) ∧ w.heap[N + 5]? = some (.cells set1C 40 (0, 0)) ∧ w.heap[N + 6]? = some (.cells (cmdC go gn (N + 5)) 31 (0, 0)) ∧ w.heap[N + 8]? = some (.cells set2C 40 (0, 0)) ∧ w.heap[N + 9]? = some (.cells (cmdC 2 1 (N + 8)) 31 (0, 0))
theorem leaf_ex (w : World) (B : Nat) (op n : Int) : EX w B ⟨op, n, none, 0, 0⟩ (.mk op n []) := ⟨1, RE.leaf w B 0 op n⟩
theorem blk {w : World} {b i : Nat} {cs : Array Value} {t : TypeId} {v : Value} (h : w.heap[b]? = some (.cells cs t (0, 0))) (hv : cs[i]? = some v) : w.cell? ⟨b, i, none⟩ = some v := by
  rw [cell_of_row w b i cs t (0, 0) h]; exact hv
theorem small_rm {w : World} {N : Nat} {go gn : Int} (h : BlocksAre w N go gn) : RM w (N + 10) (smallC N) (smallM (.mk go gn [])) := by
  obtain ⟨h1, h5, h6, h8, h9⟩ := h
  have rows1 : ∀ {α : Type} (P : World → Nat → Nat → Nat → α → Prop) (sz b : Nat) (y : α), b < N + 10 → P w (N + 10) b 0 y → Rows P sz w (N + 10) ⟨some ⟨b, 0, none⟩, 1, 1⟩ [y] := fun P sz b y hb hy => ⟨rfl, Nat.le_refl _, by show 1 ≤ maxLen; unfold maxLen; omega, fun _ => ⟨b, 0, rfl, hb, fun k x hx => by
    match k, hx with
    | 0, hx => simp at hx; subst hx; simpa using hy
    | k + 1, hx => simp at hx⟩, fun h => by simp at h⟩
  have rows0 : ∀ {α : Type} (P : World → Nat → Nat → Nat → α → Prop) (sz : Nat), Rows P sz w (N + 10) ⟨none, 0, 0⟩ [] := fun P sz => ⟨rfl, Nat.le_refl _, by show 0 ≤ maxLen; omega, fun h => absurd h (by show ¬ 0 < 0; omega), fun _ => rfl⟩
  have e1 : SetAt w (N + 10) (N + 5) 0 ⟨0, true, .mk 0 0 []⟩ := ⟨blk h5 rfl, blk h5 rfl, ⟨0, 0, none, 0, 0⟩, ⟨blk h5 rfl, blk h5 rfl, blk h5 rfl⟩, leaf_ex _ _ _ _⟩
  have e2 : SetAt w (N + 10) (N + 8) 0 ⟨1, false, .mk 4 0 []⟩ := ⟨blk h8 rfl, blk h8 rfl, ⟨4, 0, none, 0, 0⟩, ⟨blk h8 rfl, blk h8 rfl, blk h8 rfl⟩, leaf_ex _ _ _ _⟩
  refine ⟨⟨by show 2 ≤ maxLen; unfold maxLen; omega, Nat.le_refl _, by show 2 ≤ maxLen; unfold maxLen; omega, ?_⟩, ⟨rfl, fun _ => ⟨N + 1, 0, rfl, by omega, fun k v hv => ?_⟩⟩, leaf_ex _ _ _ _, leaf_ex _ _ _ _,
    rows1 CmdAt 4 (N + 6) _ (by omega) ⟨⟨⟨go, gn, none, 0, 0⟩, ⟨blk h6 rfl, blk h6 rfl, blk h6 rfl⟩, leaf_ex _ _ _ _⟩, ⟨some ⟨N + 5, 0, none⟩, 1, 1⟩, blk h6 rfl, rows1 SetAt 5 (N + 5) _ (by omega) e1⟩,
    rows1 CmdAt 4 (N + 9) _ (by omega) ⟨⟨⟨2, 1, none, 0, 0⟩, ⟨blk h9 rfl, blk h9 rfl, blk h9 rfl⟩, leaf_ex _ _ _ _⟩, ⟨some ⟨N + 8, 0, none⟩, 1, 1⟩, blk h9 rfl, rows1 SetAt 5 (N + 8) _ (by omega) e2⟩,
    rows0 _ _, rows0 _ _, rows0 _ _⟩
  · intro v hv
    simp [smallM] at hv
    rcases hv with rfl | rfl <;> decide
  · match k, hv with
    | 0, hv => simp [smallM] at hv; subst hv; exact ⟨blk h1 rfl, blk h1 rfl, blk h1 rfl, blk h1 rfl, blk h1 rfl⟩
    | 1, hv => simp [smallM] at hv; subst hv; exact ⟨blk h1 rfl, blk h1 rfl, blk h1 rfl, blk h1 rfl, blk h1 rfl⟩
    | k + 2, hv => simp [smallM] at hv
end Go.Proofs.Ytddbplgcglgloaa
