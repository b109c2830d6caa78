/- The walks of parrylaw5's yes and small: a module that may be, newly laid. When two modules are the same, as data. The walks of slices.Equal over variables, slices.EqualFunc over expressions, sets and commands, and of the program's sameSet, sameCommand and Same. The walks of slices.EqualFunc over expressions, sets and commands, and of the program's sameSet and sameCommand. The walks of slices.EqualFunc over sets and commands, and of the program's sameSet and sameCommand. The walk of the program's Same. The contracts of the program's module, gathered. -/
import Derived.Test.YtjpphjmehgflpaaDoorMHeavy
import Derived.Test.YtjpphjmehgflpaaDoorGDev
import Derived.Laws.StructEq
namespace Go.Proofs.YtjpphjmehgflpaaDoor
open Go.RowKit Ex
set_option linter.unusedSimpArgs false
set_option linter.unusedVariables false

def varsC : Array Value := #[.string ⟨#[120]⟩, .bool true, .int .i64 1, .int .i64 0, .int .i64 0, .string ⟨#[121]⟩, .bool false, .int .i64 1, .int .i64 0, .int .i64 0]
def set1C : Array Value := #[.int .i64 0, .bool true, .int .i64 0, .int .i64 0, .slice none 0 0]
def set2C : Array Value := #[.int .i64 1, .bool false, .int .i64 4, .int .i64 0, .slice none 0 0]
def cmdC (go gn : Int) (n : Nat) : Array Value := #[.int .i64 go, .int .i64 gn, .slice none 0 0, .slice (some ⟨n, 0, none⟩) 1 1]
def yesC : Array Value := #[.int .i64 2, .int .i64 1, .slice none 0 0]
def smallC (N : Nat) : M8 := ⟨⟨some ⟨N + 1, 0, none⟩, 2, 2⟩, ⟨2, 1, none, 0, 0⟩, ⟨2, 1, none, 0, 0⟩, ⟨some ⟨N + 6, 0, none⟩, 1, 1⟩, ⟨some ⟨N + 9, 0, none⟩, 1, 1⟩, ⟨none, 0, 0⟩, ⟨none, 0, 0⟩, ⟨none, 0, 0⟩⟩
def smallW (w : World) : World := (((((((((w.alloc (.cells (smallC w.heap.size).cells 28)).alloc (.cells varsC 51)).alloc (.cells yesC 25)).alloc (.cells yesC 25)).alloc (.cells yesC 25)).alloc (.cells set1C 48)).alloc (.cells (cmdC 2 1 (w.heap.size + 5)) 46)).alloc (.cells yesC 25)).alloc (.cells set2C 48)).alloc (.cells (cmdC 2 1 (w.heap.size + 8)) 46)
theorem small_size (w : World) : (smallW w).heap.size = w.heap.size + 10 := by simp [smallW]
theorem small_below (w : World) : Below w.heap.size w (smallW w) := by
  unfold smallW
  refine Below.alloc (Below.alloc (Below.alloc (Below.alloc (Below.alloc (Below.alloc (Below.alloc (Below.alloc (Below.alloc (Below.alloc (Below.refl _ _) ?_ _) ?_ _) ?_ _) ?_ _) ?_ _) ?_ _) ?_ _) ?_ _) ?_ _) ?_ _ <;> simp <;> omega
theorem up_at {w : World} {o c : Obj} {b : Nat} (h : w.heap[b]? = some c) : (w.alloc o).heap[b]? = some c :=
  (Below.heap_alloc w o b (Array.getElem?_eq_some_iff.1 h).1).trans h
theorem new_at {w : World} {o : Obj} {b : Nat} (h : w.heap.size = b) : (w.alloc o).heap[b]? = some o := by subst h; exact heap_alloc_new w o
theorem small_blocks (w : World) : (smallW w).heap[w.heap.size + 1]? = some (.cells varsC 51 (0, 0)) ∧ (smallW w).heap[w.heap.size + 5]? = some (.cells set1C 48 (0, 0)) ∧ (smallW w).heap[w.heap.size + 6]? = some (.cells (cmdC 2 1 (w.heap.size + 5)) 46 (0, 0)) ∧ (smallW w).heap[w.heap.size + 8]? = some (.cells set2C 48 (0, 0)) ∧ (smallW w).heap[w.heap.size + 9]? = some (.cells (cmdC 2 1 (w.heap.size + 8)) 46 (0, 0)) := by
  unfold smallW
  refine ⟨up_at (up_at (up_at (up_at (up_at (up_at (up_at (up_at (new_at ?_)))))))), up_at (up_at (up_at (up_at (new_at ?_)))), up_at (up_at (up_at (new_at ?_))), up_at (new_at ?_), new_at ?_⟩ <;> simp
/- the module, as data; its environment's guard may be another -/
def smallM (g : T) : MT := ⟨[⟨⟨#[120]⟩, true, 1, 0, 0⟩, ⟨⟨#[121]⟩, false, 1, 0, 0⟩], .mk 2 1 [], .mk 2 1 [], [⟨g, [⟨0, true, .mk 0 0 []⟩]⟩], [⟨.mk 2 1 [], [⟨1, false, .mk 4 0 []⟩]⟩], [], [], []⟩
theorem small_ok : modE (smallM (.mk 2 1 [])) = 0 := by decide +kernel
theorem small_next : modE (smallM (.mk 4 0 [])) = 5 := by decide +kernel
def BlocksAre (w : World) (N : Nat) (go gn : Int) : Prop := w.heap[N + 1]? = some (.cells varsC 51 (0, 0)) ∧ w.heap[N + 5]? = some (.cells set1C 48 (0, 0)) ∧ w.heap[N + 6]? = some (.cells (cmdC go gn (N + 5)) 46 (0, 0)) ∧ w.heap[N + 8]? = some (.cells set2C 48 (0, 0)) ∧ w.heap[N + 9]? = some (.cells (cmdC 2 1 (N + 8)) 46 (0, 0))
theorem leaf_ex (w : World) (B : Nat) (op n : Int) : EX w B ⟨op, n, none, 0, 0⟩ (.mk op n []) := ⟨1, RE.leaf w B 0 op n⟩
theorem blk {w : World} {b i : Nat} {cs : Array Value} {t : TypeId} {v : Value} (h : w.heap[b]? = some (.cells cs t (0, 0))) (hv : cs[i]? = some v) : w.cell? ⟨b, i, none⟩ = some v := by
  rw [cell_of_row w b i cs t (0, 0) h]; exact hv
theorem small_rm {w : World} {N : Nat} {go gn : Int} (h : BlocksAre w N go gn) : RM w (N + 10) (smallC N) (smallM (.mk go gn [])) := by
  obtain ⟨h1, h5, h6, h8, h9⟩ := h
  have rows1 : ∀ {α : Type} (P : World → Nat → Nat → Nat → α → Prop) (sz b : Nat) (y : α), b < N + 10 → P w (N + 10) b 0 y → Rows P sz w (N + 10) ⟨some ⟨b, 0, none⟩, 1, 1⟩ [y] := fun P sz b y hb hy => ⟨rfl, Nat.le_refl _, by show 1 ≤ maxLen; unfold maxLen; omega, fun _ => ⟨b, 0, rfl, hb, fun k x hx => by
    match k, hx with
    | 0, hx => simp at hx; subst hx; simpa using hy
    | k + 1, hx => simp at hx⟩, fun h => by simp at h⟩
  have rows0 : ∀ {α : Type} (P : World → Nat → Nat → Nat → α → Prop) (sz : Nat), Rows P sz w (N + 10) ⟨none, 0, 0⟩ [] := fun P sz => ⟨rfl, Nat.le_refl _, by show 0 ≤ maxLen; omega, fun h => absurd h (by show ¬ 0 < 0; omega), fun _ => rfl⟩
  have e1 : SetAt w (N + 10) (N + 5) 0 ⟨0, true, .mk 0 0 []⟩ := ⟨blk h5 rfl, blk h5 rfl, ⟨0, 0, none, 0, 0⟩, ⟨blk h5 rfl, blk h5 rfl, blk h5 rfl⟩, leaf_ex _ _ _ _⟩
  have e2 : SetAt w (N + 10) (N + 8) 0 ⟨1, false, .mk 4 0 []⟩ := ⟨blk h8 rfl, blk h8 rfl, ⟨4, 0, none, 0, 0⟩, ⟨blk h8 rfl, blk h8 rfl, blk h8 rfl⟩, leaf_ex _ _ _ _⟩
  refine ⟨⟨by show 2 ≤ maxLen; unfold maxLen; omega, Nat.le_refl _, by show 2 ≤ maxLen; unfold maxLen; omega, ?_⟩, ⟨rfl, fun _ => ⟨N + 1, 0, rfl, by omega, fun k v hv => ?_⟩⟩, leaf_ex _ _ _ _, leaf_ex _ _ _ _,
    rows1 CmdAt 4 (N + 6) _ (by omega) ⟨⟨⟨go, gn, none, 0, 0⟩, ⟨blk h6 rfl, blk h6 rfl, blk h6 rfl⟩, leaf_ex _ _ _ _⟩, ⟨some ⟨N + 5, 0, none⟩, 1, 1⟩, blk h6 rfl, rows1 SetAt 5 (N + 5) _ (by omega) e1⟩,
    rows1 CmdAt 4 (N + 9) _ (by omega) ⟨⟨⟨2, 1, none, 0, 0⟩, ⟨blk h9 rfl, blk h9 rfl, blk h9 rfl⟩, leaf_ex _ _ _ _⟩, ⟨some ⟨N + 8, 0, none⟩, 1, 1⟩, blk h9 rfl, rows1 SetAt 5 (N + 8) _ (by omega) e2⟩,
    rows0 _ _, rows0 _ _, rows0 _ _⟩
  · intro v hv
    simp [smallM] at hv
    rcases hv with rfl | rfl <;> decide
  · match k, hv with
    | 0, hv => simp [smallM] at hv; subst hv; exact ⟨blk h1 rfl, blk h1 rfl, blk h1 rfl, blk h1 rfl, blk h1 rfl⟩
    | 1, hv => simp [smallM] at hv; subst hv; exact ⟨blk h1 rfl, blk h1 rfl, blk h1 rfl, blk h1 rfl, blk h1 rfl⟩
    | k + 2, hv => simp [smallM] at hv
end Go.Proofs.YtjpphjmehgflpaaDoor
namespace Go.Proofs.YtjpphjmehgflpaaDoor
open Go.RowKit Ex
end Go.Proofs.YtjpphjmehgflpaaDoor
namespace Go.Proofs.YtjpphjmehgflpaaDoor
open Go.RowKit Ex
open Go.Sort (grow)
set_option linter.unusedSimpArgs false
set_option linter.unusedVariables false

def varB (a b : Dom.V) : Bool := (a.nm.data == b.nm.data) && (a.env == b.env) && (a.srt == b.srt) && (a.lo == b.lo) && (a.hi == b.hi)
theorem neq_var (a b : Dom.V) (w : World) : (binOp .neq 51 (.agg #[.string a.nm, .bool a.env, .int .i64 a.srt, .int .i64 a.lo, .int .i64 a.hi]) (.agg #[.string b.nm, .bool b.env, .int .i64 b.srt, .int .i64 b.lo, .int .i64 b.hi])).run Tryd.prog w = .ok (.bool (!varB a b)) w := by
  rw [run_neq_struct, show (10000 : Nat) = 9998 + 1 + 1 from rfl, run_equalIn_agg w 9999 51 _ _ (by kernel_rfl) (by kernel_rfl)]
  unfold varB
  rw [show (a.nm.data == b.nm.data) = (a.nm.toList == b.nm.toList) by rw [← beq_toListBytes]; rfl]
  simp [go_sem]
  by_cases h1 : a.nm.toList = b.nm.toList
  · by_cases h2 : a.env = b.env
    · by_cases h3 : a.srt = b.srt
      · by_cases h4 : a.lo = b.lo
        · by_cases h5 : a.hi = b.hi
          · simp [h1, h2, h3, h4, h5]
          · simp [h1, h2, h3, h4, h5]
        · simp [h1, h2, h3, h4]
      · simp [h1, h2, h3]
    · simp [h1, h2]
  · simp [h1]
theorem varsS_ne : ∀ (a b : List Dom.V), ¬ a.length = b.length → varsS a b = false
  | [], [], h => absurd rfl h
  | [], _ :: _, _ => by rw [varsS]
  | _ :: _, [], _ => by rw [varsS]
  | a :: r, b :: s, h => by rw [varsS, varsS_ne r s (fun e => h (by simp [e]))]; simp
theorem rowS_ne : ∀ (a b : List T), ¬ a.length = b.length → rowS a b = false
  | [], [], h => absurd rfl h
  | [], _ :: _, _ => by rw [rowS]
  | _ :: _, [], _ => by rw [rowS]
  | a :: r, b :: s, h => by rw [rowS, rowS_ne r s (fun e => h (by simp [e]))]; simp
theorem setsS_ne : ∀ (a b : List ST), ¬ a.length = b.length → setsS a b = false
  | [], [], h => absurd rfl h
  | [], _ :: _, _ => by rw [setsS]
  | _ :: _, [], _ => by rw [setsS]
  | a :: r, b :: s, h => by rw [setsS, setsS_ne r s (fun e => h (by simp [e]))]; simp
theorem cmdsS_ne : ∀ (a b : List CT), ¬ a.length = b.length → cmdsS a b = false
  | [], [], h => absurd rfl h
  | [], _ :: _, _ => by rw [cmdsS]
  | _ :: _, [], _ => by rw [cmdsS]
  | a :: r, b :: s, h => by rw [cmdsS, cmdsS_ne r s (fun e => h (by simp [e]))]; simp
theorem two_blk (w : World) (X Y : Array Value) (t : Nat) : ((w.alloc (.cells X t)).alloc (.cells Y t)).heap[w.heap.size]? = some (.cells X t (0, 0)) ∧ ((w.alloc (.cells X t)).alloc (.cells Y t)).heap[w.heap.size + 1]? = some (.cells Y t (0, 0)) ∧ Below w.heap.size w ((w.alloc (.cells X t)).alloc (.cells Y t)) ∧ w.heap.size + 2 ≤ ((w.alloc (.cells X t)).alloc (.cells Y t)).heap.size :=
  ⟨up_at (new_at rfl), new_at (by simp), ((Below.refl _ _).alloc (Nat.le_refl _) _).alloc (by simp) _, by simp⟩
theorem blk_cell {w : World} {b : Nat} {X : Array Value} {t : Nat} (h : w.heap[b]? = some (.cells X t (0, 0))) (i : Nat) {v : Value} (hv : X[i]? = some v) : w.cell? ⟨b, i, none⟩ = some v := by
  rw [cell_of_row _ _ i X t (0, 0) h]; exact hv

set_option maxRecDepth 100000 in
set_option maxHeartbeats 2000000 in
theorem eqvars_any (B : Nat) (A : Option Addr) (n c : Nat) (l : List Dom.V) (A2 : Option Addr) (n2 c2 : Nat) (l2 : List Dom.V) (w : World) (hn : n ≤ maxLen) (hn2 : n2 ≤ maxLen) (hrv : Dom.RV w B A n l) (hrv2 : Dom.RV w B A2 n2 l2) :
    Calls Tryd.prog 29 #[.slice A n c, .slice A2 n2 c2] w fun e w' => e = .returned (.bool (varsS l l2)) ∧ Below w.heap.size w w' := by
  unfold maxLen at hn hn2
  have Hl := hide hrv.1
  have Hl2 := hide hrv2.1
  have Hrv := hide hrv
  have Hrv2 := hide hrv2
  clear hrv hrv2
  by_cases hl : n = n2
  · subst hl
    have hl' : ((n : Int) != (n : Int)) = false := by simp
    go_enter Tryd.func29, Tryd.ntmps29
    go_wp2_with fail
    go_loopw [13] (fun i wr => ∃ k : Nat, k ≤ n ∧ i = .int .i64 k ∧ Hid (varsS (l.drop k) (l2.drop k) = varsS l l2) ∧ Below w.heap.size w wr ∧ Hid (Dom.RV wr B A n l) ∧ Hid (Dom.RV wr B A2 n l2)) (fun i _ => n - (intOf i).toNat)
    case atStart => exact ⟨0, Nat.zero_le _, rfl, hide rfl, Below.refl _ _, Hrv, Hrv2⟩
    case round =>
      obtain ⟨k, hk, rfl, HT, hb, Hv, Hv2⟩ := hrel
      by_cases hlt : k < n
      · have hlt' : ((k : Int) < (n : Int)) := by omega
        obtain ⟨b, off, v, rfl, hbB, hku, g0, g1, g2, g3, g4⟩ := Hv.out.at_ hlt
        obtain ⟨b2, off2, v2, rfl, hbB2, hkv, e0, e1, e2, e3, e4⟩ := Hv2.out.at_ hlt
        have hcmp := neq_var v v2
        have Hst : Hid ((varB v v2 && varsS (l.drop (k + 1)) (l2.drop (k + 1))) = varsS l l2) := hide (by rw [← HT.out, drop_at hku, drop_at hkv, varsS]; rfl)
        clear hku hkv HT
        generalize varB v v2 = r at *
        cases r
        · have Hf : Hid (varsS l l2 = false) := hide (by rw [← Hst.out]; rfl)
          clear Hst
          go_wp2_with fail
          go_quiet (fail)
          go_wp2_with fail
          go_ret
          exact ⟨ret_bool Hf.out.symm, below_drewN hb _⟩
        · have Hon : Hid (varsS (l.drop (k + 1)) (l2.drop (k + 1)) = varsS l l2) := hide (by rw [← Hst.out]; rfl)
          clear Hst
          go_wp2_with fail
          go_quiet (fail)
          go_wp2_with fail
          go_roundw
          case rel => exact ⟨k + 1, by omega, by go_num, Hon, below_drewN hb _, hide (Hv.out.below (below_drewN (Below.refl _ _) _)), hide (Hv2.out.below (below_drewN (Below.refl _ _) _))⟩
          case measure => simp [intOf]; omega
      · have hlt' : ¬ ((k : Int) < (n : Int)) := by omega
        have Hf : Hid (varsS l l2 = true) := hide (by rw [← HT.out, List.drop_of_length_le (by rw [Hl.out]; omega), List.drop_of_length_le (by rw [Hl2.out]; omega), varsS])
        go_wp2_with fail
        go_ret
        exact ⟨ret_bool Hf.out.symm, hb⟩
  · have hl' : ((n : Int) != (n2 : Int)) = true := by simp; omega
    have Hr : Hid (varsS l l2 = false) := hide (varsS_ne _ _ (by rw [Hl.out, Hl2.out]; exact hl))
    clear hl
    go_enter Tryd.func29, Tryd.ntmps29
    go_wp2_with fail
    go_ret
    exact ⟨ret_bool Hr.out.symm, Below.refl _ _⟩
end Go.Proofs.YtjpphjmehgflpaaDoor
namespace Go.Proofs.YtjpphjmehgflpaaDoor
open Go.RowKit Ex
open Go.Sort (grow)
set_option linter.unusedSimpArgs false
set_option linter.unusedVariables false

set_option maxRecDepth 100000 in
set_option maxHeartbeats 2000000 in
theorem eqexprs_any (B : Nat) (A : Option Addr) (n c : Nat) (l : List T) (A2 : Option Addr) (n2 c2 : Nat) (l2 : List T) (w : World) (hB : B ≤ w.heap.size) (hr : Rows ExAt 3 w B ⟨A, n, c⟩ l) (hr2 : Rows ExAt 3 w B ⟨A2, n2, c2⟩ l2) :
    Calls Tryd.prog 33 #[.slice A n c, .slice A2 n2 c2, .func (.func 30) #[] #[]] w fun e w' => e = .returned (.bool (rowS l l2)) ∧ Below w.heap.size w w' := by
  have hn : n ≤ 2 ^ 63 - 1 := Nat.le_trans hr.2.1 hr.2.2.1
  have hn2 : n2 ≤ 2 ^ 63 - 1 := Nat.le_trans hr2.2.1 hr2.2.2.1
  have Hl : Hid (l.length = n) := hide hr.1
  have Hl2 : Hid (l2.length = n2) := hide hr2.1
  have Hr := hide hr
  have Hr2 := hide hr2
  clear hr hr2
  by_cases hl : n = n2
  · subst hl
    have hl' : ((n : Int) != (n : Int)) = false := by simp
    go_enter Tryd.func33, Tryd.ntmps33
    go_wp2_with fail
    go_loopw [17] (fun i wr => ∃ k : Nat, k ≤ n ∧ i = .int .i64 k ∧ Hid (rowS (l.drop k) (l2.drop k) = rowS l l2) ∧ Below w.heap.size w wr) (fun i _ => n - (intOf i).toNat)
    case atStart => exact ⟨0, Nat.zero_le _, rfl, hide rfl, Below.refl _ _⟩
    case round =>
      obtain ⟨k, hk, rfl, HT, hb⟩ := hrel
      have hzr := hb.size
      by_cases hlt : k < n
      · have hlt' : ((k : Int) < (n : Int)) := by omega
        obtain ⟨b, off, s1, eA, hbB, hku, ⟨⟨go, gn, gA, gl, gc⟩, ⟨c0, c1, c2⟩, ⟨d1, hex⟩⟩⟩ := ((Hr.out).keep (w' := wr) (fun b o y h1 hy => ExAt.keep h1 hy (fun p hp => (hb.mono (by omega)).cell hp))).at_ (k := k) hlt
        obtain ⟨b2, off2, s2, eA2, hbB2, hkv, ⟨⟨ho, hn, hA, hl2, hc⟩, ⟨c5, c6, c7⟩, ⟨d2, hex2⟩⟩⟩ := ((Hr2.out).keep (w' := wr) (fun b o y h1 hy => ExAt.keep h1 hy (fun p hp => (hb.mono (by omega)).cell hp))).at_ (k := k) hlt
        simp only [SL.v] at *
        subst eA
        subst eA2
        have Hst : Hid ((sameE s1 s2 && rowS (l.drop (k + 1)) (l2.drop (k + 1))) = rowS l l2) := hide (by rw [← HT.out, drop_at hku, drop_at hkv, rowS])
        clear hku hkv HT
        obtain ⟨hx, hy, hbn, hzn⟩ := two_blk wr #[.int .i64 go, .int .i64 gn, .slice gA gl gc] #[.int .i64 ho, .int .i64 hn, .slice hA hl2 hc] 25
        have hbn0 := (Below.refl wr.heap.size wr).alloc (Nat.le_refl _) (.cells #[.int .i64 go, .int .i64 gn, .slice gA gl gc] 25)
        have m0 := blk_cell hx 0 rfl
        have n0 := blk_cell hy 0 rfl
        have m1 := blk_cell hx 1 rfl
        have n1 := blk_cell hy 1 rfl
        have m2 := blk_cell hx 2 rfl
        have n2_ := blk_cell hy 2 rfl
        have k0 := (hbn0.cell (p := ⟨b2, off2 + k * 3, none⟩) (by show b2 < wr.heap.size; omega)).trans c5
        have k1 := (hbn0.cell (p := ⟨b2, off2 + k * 3 + 1, none⟩) (by show b2 < wr.heap.size; omega)).trans c6
        have k2 := (hbn0.cell (p := ⟨b2, off2 + k * 3 + 2, none⟩) (by show b2 < wr.heap.size; omega)).trans c7
        have Hex := hide (hex.below (hbn.mono (by omega)))
        have Hex2 := hide (hex2.below (hbn.mono (by omega)))
        clear hex hex2 hx hy
        have HB := hide (hb.trans (hbn.mono hzr))
        clear hb
        go_wp2_with fail
        clear c0 c1 c2 c5 c6 c7 m0 m1 m2 n0 n1 n2_ k0 k1 k2 hbn hbn0
        generalize (wr.alloc (.cells #[.int .i64 go, .int .i64 gn, .slice gA gl gc] 25)).alloc (.cells #[.int .i64 ho, .int .i64 hn, .slice hA hl2 hc] 25) = W at *
        refine (same_any B d1 go gn gA gl gc s1 d2 ho hn hA hl2 hc s2 W (by omega) Hex.out Hex2.out).mono ?_
        rintro e w4 ⟨rfl, hb4⟩
        have Hb4 := hide (HB.out.trans (hb4.mono (by have := HB.out.size; omega)))
        clear hb4 HB
        generalize sameE s1 s2 = r at *
        cases r
        · have Hf : Hid (rowS l l2 = false) := hide (by rw [← Hst.out]; rfl)
          clear Hst
          go_wp2_with fail
          go_ret
          exact ⟨ret_bool Hf.out.symm, Hb4.out⟩
        · have Hon : Hid (rowS (l.drop (k + 1)) (l2.drop (k + 1)) = rowS l l2) := hide (by rw [← Hst.out]; rfl)
          clear Hst
          go_wp2_with fail
          go_roundw
          case rel => exact ⟨k + 1, by omega, by go_num, Hon, Hb4.out⟩
          case measure => simp [intOf]; omega
      · have hlt' : ¬ ((k : Int) < (n : Int)) := by omega
        have Hf : Hid (rowS l l2 = true) := hide (by rw [← HT.out, List.drop_of_length_le (by rw [Hl.out]; omega), List.drop_of_length_le (by rw [Hl2.out]; omega), rowS])
        go_wp2_with fail
        go_ret
        exact ⟨ret_bool Hf.out.symm, hb⟩
  · have hl' : ((n : Int) != (n2 : Int)) = true := by simp; omega
    have Hr : Hid (rowS l l2 = false) := hide (rowS_ne _ _ (by rw [Hl.out, Hl2.out]; exact hl))
    clear hl
    go_enter Tryd.func33, Tryd.ntmps33
    go_wp2_with fail
    go_ret
    exact ⟨ret_bool Hr.out.symm, Below.refl _ _⟩
end Go.Proofs.YtjpphjmehgflpaaDoor
namespace Go.Proofs.YtjpphjmehgflpaaDoor
open Go.RowKit Ex
open Go.Sort (grow)
set_option linter.unusedSimpArgs false
set_option linter.unusedVariables false

def set1 (a b : ST) : Bool := (a.var == b.var) && (a.any == b.any) && sameE a.e b.e
def cmd1 (a b : CT) : Bool := sameE a.guard b.guard && setsS a.sets b.sets
set_option maxHeartbeats 1000000 in
theorem sset_any (B : Nat) (z : Int) (p : Bool) (go gn : Int) (gA : Option Addr) (gl gc : Nat) (t : T) (z2 : Int) (p2 : Bool) (ho hn : Int) (hA : Option Addr) (hl2 hc : Nat) (t2 : T) (w : World) (hB : B ≤ w.heap.size) (hex : EX w B ⟨go, gn, gA, gl, gc⟩ t) (hex2 : EX w B ⟨ho, hn, hA, hl2, hc⟩ t2) :
    Calls Tryd.prog 58 #[.agg #[.int .i64 z, .bool p, .int .i64 go, .int .i64 gn, .slice gA gl gc], .agg #[.int .i64 z2, .bool p2, .int .i64 ho, .int .i64 hn, .slice hA hl2 hc]] w fun e w' => e = .returned (.bool (set1 ⟨z, p, t⟩ ⟨z2, p2, t2⟩)) ∧ Below w.heap.size w w' := by
  obtain ⟨hx, hy, hbn, hzn⟩ := two_blk w #[.int .i64 z, .bool p, .int .i64 go, .int .i64 gn, .slice gA gl gc] #[.int .i64 z2, .bool p2, .int .i64 ho, .int .i64 hn, .slice hA hl2 hc] 48
  obtain ⟨d1, hex⟩ := hex
  obtain ⟨d2, hex2⟩ := hex2
  have Hex := hide (hex.below (hbn.mono (by omega)))
  have Hex2 := hide (hex2.below (hbn.mono (by omega)))
  have m0 := blk_cell hx 0 rfl
  have m1 := blk_cell hx 1 rfl
  have m2 := blk_cell hx 2 rfl
  have m3 := blk_cell hx 3 rfl
  have m4 := blk_cell hx 4 rfl
  have n0 := blk_cell hy 0 rfl
  have n1 := blk_cell hy 1 rfl
  have n2 := blk_cell hy 2 rfl
  have n3 := blk_cell hy 3 rfl
  have n4 := blk_cell hy 4 rfl
  have Hb := hide hbn
  have Hs : Hid (set1 ⟨z, p, t⟩ ⟨z2, p2, t2⟩ = ((z == z2) && (p == p2) && sameE t t2)) := hide rfl
  clear hex hex2 hx hy hbn
  cases hz : z == z2
  · have Hf : Hid (set1 ⟨z, p, t⟩ ⟨z2, p2, t2⟩ = false) := hide (by rw [Hs.out, hz]; rfl)
    go_enter Tryd.func58, Tryd.ntmps58
    go_wp2_with fail
    go_ret
    exact ⟨ret_bool Hf.out.symm, Hb.out⟩
  · cases hp : p == p2
    · have Hf : Hid (set1 ⟨z, p, t⟩ ⟨z2, p2, t2⟩ = false) := hide (by rw [Hs.out, hz, hp]; rfl)
      go_enter Tryd.func58, Tryd.ntmps58
      go_wp2_with fail
      go_ret
      exact ⟨ret_bool Hf.out.symm, Hb.out⟩
    · have Hf : Hid (set1 ⟨z, p, t⟩ ⟨z2, p2, t2⟩ = sameE t t2) := hide (by rw [Hs.out, hz, hp]; rfl)
      go_enter Tryd.func58, Tryd.ntmps58
      go_wp2_with fail
      clear m0 m1 m2 m3 m4 n0 n1 n2 n3 n4
      generalize (w.alloc (.cells #[.int .i64 z, .bool p, .int .i64 go, .int .i64 gn, .slice gA gl gc] 48)).alloc (.cells #[.int .i64 z2, .bool p2, .int .i64 ho, .int .i64 hn, .slice hA hl2 hc] 48) = W at *
      refine (same_any B d1 go gn gA gl gc t d2 ho hn hA hl2 hc t2 W (by omega) Hex.out Hex2.out).mono ?_
      rintro e w4 ⟨rfl, hb4⟩
      have Hb4 := hide (Hb.out.trans (hb4.mono (by omega)))
      clear hb4
      go_wp2_with fail
      go_ret
      exact ⟨ret_bool Hf.out.symm, Hb4.out⟩

set_option maxRecDepth 100000 in
set_option maxHeartbeats 2000000 in
theorem eqsets_any (B : Nat) (A : Option Addr) (n c : Nat) (l : List ST) (A2 : Option Addr) (n2 c2 : Nat) (l2 : List ST) (w : World) (hB : B ≤ w.heap.size) (hr : Rows SetAt 5 w B ⟨A, n, c⟩ l) (hr2 : Rows SetAt 5 w B ⟨A2, n2, c2⟩ l2) :
    Calls Tryd.prog 57 #[.slice A n c, .slice A2 n2 c2, .func (.func 58) #[] #[]] w fun e w' => e = .returned (.bool (setsS l l2)) ∧ Below w.heap.size w w' := by
  have hn : n ≤ 2 ^ 63 - 1 := Nat.le_trans hr.2.1 hr.2.2.1
  have hn2 : n2 ≤ 2 ^ 63 - 1 := Nat.le_trans hr2.2.1 hr2.2.2.1
  have Hl : Hid (l.length = n) := hide hr.1
  have Hl2 : Hid (l2.length = n2) := hide hr2.1
  have Hr := hide hr
  have Hr2 := hide hr2
  clear hr hr2
  by_cases hl : n = n2
  · subst hl
    have hl' : ((n : Int) != (n : Int)) = false := by simp
    go_enter Tryd.func57, Tryd.ntmps57
    go_wp2_with fail
    go_loopw [17] (fun i wr => ∃ k : Nat, k ≤ n ∧ i = .int .i64 k ∧ Hid (setsS (l.drop k) (l2.drop k) = setsS l l2) ∧ Below w.heap.size w wr) (fun i _ => n - (intOf i).toNat)
    case atStart => exact ⟨0, Nat.zero_le _, rfl, hide rfl, Below.refl _ _⟩
    case round =>
      obtain ⟨k, hk, rfl, HT, hb⟩ := hrel
      have hzr := hb.size
      by_cases hlt : k < n
      · have hlt' : ((k : Int) < (n : Int)) := by omega
        obtain ⟨b, off, s1, eA, hbB, hku, ⟨c0, c1, ⟨go, gn, gA, gl, gc⟩, ⟨c2, c3, c4⟩, hex⟩⟩ := ((Hr.out).keep (w' := wr) (fun b o y h1 hy => SetAt.keep h1 hy (fun p hp => (hb.mono (by omega)).cell hp))).at_ (k := k) hlt
        obtain ⟨b2, off2, s2, eA2, hbB2, hkv, ⟨e0, e1, ⟨ho, hn, hA, hl2, hc⟩, ⟨e2, e3, e4⟩, hex2⟩⟩ := ((Hr2.out).keep (w' := wr) (fun b o y h1 hy => SetAt.keep h1 hy (fun p hp => (hb.mono (by omega)).cell hp))).at_ (k := k) hlt
        obtain ⟨z, p, t1⟩ := s1
        obtain ⟨z2, p2, t2⟩ := s2
        simp only at *
        subst eA
        subst eA2
        have Hst : Hid ((set1 ⟨z, p, t1⟩ ⟨z2, p2, t2⟩ && setsS (l.drop (k + 1)) (l2.drop (k + 1))) = setsS l l2) := hide (by rw [← HT.out, drop_at hku, drop_at hkv, setsS]; rfl)
        clear hku hkv HT
        obtain ⟨hx, hy, hbn, hzn⟩ := two_blk wr #[.int .i64 z, .bool p, .int .i64 go, .int .i64 gn, .slice gA gl gc] #[.int .i64 z2, .bool p2, .int .i64 ho, .int .i64 hn, .slice hA hl2 hc] 48
        have hbn0 := (Below.refl wr.heap.size wr).alloc (Nat.le_refl _) (.cells #[.int .i64 z, .bool p, .int .i64 go, .int .i64 gn, .slice gA gl gc] 48)
        have m0 := blk_cell hx 0 rfl
        have nn0 := blk_cell hy 0 rfl
        have m1 := blk_cell hx 1 rfl
        have nn1 := blk_cell hy 1 rfl
        have m2 := blk_cell hx 2 rfl
        have nn2 := blk_cell hy 2 rfl
        have m3 := blk_cell hx 3 rfl
        have nn3 := blk_cell hy 3 rfl
        have m4 := blk_cell hx 4 rfl
        have nn4 := blk_cell hy 4 rfl
        have k0 := (hbn0.cell (p := ⟨b2, off2 + k * 5, none⟩) (by show b2 < wr.heap.size; omega)).trans e0
        have k1 := (hbn0.cell (p := ⟨b2, off2 + k * 5 + 1, none⟩) (by show b2 < wr.heap.size; omega)).trans e1
        have k2 := (hbn0.cell (p := ⟨b2, off2 + k * 5 + 2, none⟩) (by show b2 < wr.heap.size; omega)).trans e2
        have k3 := (hbn0.cell (p := ⟨b2, off2 + k * 5 + 3, none⟩) (by show b2 < wr.heap.size; omega)).trans e3
        have k4 := (hbn0.cell (p := ⟨b2, off2 + k * 5 + 4, none⟩) (by show b2 < wr.heap.size; omega)).trans e4
        have Hex := hide (EX.below (x := ⟨go, gn, gA, gl, gc⟩) hex (hbn.mono (by omega)))
        have Hex2 := hide (EX.below (x := ⟨ho, hn, hA, hl2, hc⟩) hex2 (hbn.mono (by omega)))
        clear hex hex2 hx hy
        have HB := hide (hb.trans (hbn.mono hzr))
        clear hb
        go_wp2_with fail
        clear c0 c1 c2 c3 c4 e0 e1 e2 e3 e4 m0 m1 m2 m3 m4 nn0 nn1 nn2 nn3 nn4 k0 k1 k2 k3 k4 hbn hbn0
        generalize (wr.alloc (.cells #[.int .i64 z, .bool p, .int .i64 go, .int .i64 gn, .slice gA gl gc] 48)).alloc (.cells #[.int .i64 z2, .bool p2, .int .i64 ho, .int .i64 hn, .slice hA hl2 hc] 48) = W at *
        refine (sset_any B z p go gn gA gl gc t1 z2 p2 ho hn hA hl2 hc t2 W (by omega) Hex.out Hex2.out).mono ?_
        rintro e w4 ⟨rfl, hb4⟩
        have Hb4 := hide (HB.out.trans (hb4.mono (by have := HB.out.size; omega)))
        clear hb4 HB
        generalize set1 ⟨z, p, t1⟩ ⟨z2, p2, t2⟩ = r at *
        cases r
        · have Hf : Hid (setsS l l2 = false) := hide (by rw [← Hst.out]; rfl)
          clear Hst
          go_wp2_with fail
          go_ret
          exact ⟨ret_bool Hf.out.symm, Hb4.out⟩
        · have Hon : Hid (setsS (l.drop (k + 1)) (l2.drop (k + 1)) = setsS l l2) := hide (by rw [← Hst.out]; rfl)
          clear Hst
          go_wp2_with fail
          go_roundw
          case rel => exact ⟨k + 1, by omega, by go_num, Hon, Hb4.out⟩
          case measure => simp [intOf]; omega
      · have hlt' : ¬ ((k : Int) < (n : Int)) := by omega
        have Hf : Hid (setsS l l2 = true) := hide (by rw [← HT.out, List.drop_of_length_le (by rw [Hl.out]; omega), List.drop_of_length_le (by rw [Hl2.out]; omega), setsS])
        go_wp2_with fail
        go_ret
        exact ⟨ret_bool Hf.out.symm, hb⟩
  · have hl' : ((n : Int) != (n2 : Int)) = true := by simp; omega
    have Hr : Hid (setsS l l2 = false) := hide (setsS_ne _ _ (by rw [Hl.out, Hl2.out]; exact hl))
    clear hl
    go_enter Tryd.func57, Tryd.ntmps57
    go_wp2_with fail
    go_ret
    exact ⟨ret_bool Hr.out.symm, Below.refl _ _⟩

set_option maxHeartbeats 1000000 in
theorem scmd_any (B : Nat) (x y : C2) (a b : CT) (w : World) (hB : B ≤ w.heap.size) (hr : RC w B x a) (hr2 : RC w B y b) :
    Calls Tryd.prog 32 #[.agg x.cells, .agg y.cells] w fun e w' => e = .returned (.bool (cmd1 a b)) ∧ Below w.heap.size w w' := by
  obtain ⟨⟨go, gn, gA, gl, gc⟩, ⟨tA, tn, tc⟩⟩ := x
  obtain ⟨⟨ho, hn, hA, hl2, hc⟩, ⟨uA, un, uc⟩⟩ := y
  simp only [C2.cells, SL.v]
  obtain ⟨hx, hy, hbn, hzn⟩ := two_blk w #[.int .i64 go, .int .i64 gn, .slice gA gl gc, .slice tA tn tc] #[.int .i64 ho, .int .i64 hn, .slice hA hl2 hc, .slice uA un uc] 46
  have HR := hide (hr.below (hbn.mono (by omega)))
  have HR2 := hide (hr2.below (hbn.mono (by omega)))
  have m0 := blk_cell hx 0 rfl
  have m1 := blk_cell hx 1 rfl
  have m2 := blk_cell hx 2 rfl
  have m3 := blk_cell hx 3 rfl
  have n0 := blk_cell hy 0 rfl
  have n1 := blk_cell hy 1 rfl
  have n2 := blk_cell hy 2 rfl
  have n3 := blk_cell hy 3 rfl
  have M3 := hide m3
  have N3 := hide n3
  have Hb := hide hbn
  have Hs : Hid (cmd1 a b = (sameE a.guard b.guard && setsS a.sets b.sets)) := hide rfl
  obtain ⟨d1, hex⟩ := HR.out.1
  obtain ⟨d2, hex2⟩ := HR2.out.1
  have Hex := hide hex
  have Hex2 := hide hex2
  clear hr hr2 hx hy hbn hex hex2
  go_enter Tryd.func32, Tryd.ntmps32
  go_wp2_with fail
  clear m0 m1 m2 m3 n0 n1 n2 n3
  generalize (w.alloc (.cells #[.int .i64 go, .int .i64 gn, .slice gA gl gc, .slice tA tn tc] 46)).alloc (.cells #[.int .i64 ho, .int .i64 hn, .slice hA hl2 hc, .slice uA un uc] 46) = W at *
  refine (same_any B d1 go gn gA gl gc a.guard d2 ho hn hA hl2 hc b.guard W (by omega) Hex.out Hex2.out).mono ?_
  rintro e w4 ⟨rfl, hb4⟩
  have hz4 := hb4.size
  have Hb4 := hide (Hb.out.trans (hb4.mono (by omega)))
  have HR4 := hide (HR.out.below (hb4.mono (by omega)))
  have HR24 := hide (HR2.out.below (hb4.mono (by omega)))
  have m3 := (hb4.cell (p := ⟨w.heap.size, 3, none⟩) (by show w.heap.size < W.heap.size; omega)).trans M3.out
  have n3 := (hb4.cell (p := ⟨w.heap.size + 1, 3, none⟩) (by show w.heap.size + 1 < W.heap.size; omega)).trans N3.out
  clear hb4 HR HR2 M3 N3 Hex Hex2 Hb
  generalize sameE a.guard b.guard = r at *
  cases r
  · have Hf : Hid (cmd1 a b = false) := hide (by rw [Hs.out]; rfl)
    go_wp2_with fail
    go_ret
    exact ⟨ret_bool Hf.out.symm, Hb4.out⟩
  · have Hf : Hid (cmd1 a b = setsS a.sets b.sets) := hide (by rw [Hs.out]; rfl)
    go_wp2_with fail
    clear m3 n3
    refine (eqsets_any B tA tn tc a.sets uA un uc b.sets w4 (by omega) HR4.out.2 HR24.out.2).mono ?_
    rintro e w5 ⟨rfl, hb5⟩
    have Hb5 := hide (Hb4.out.trans (hb5.mono (by omega)))
    clear hb5
    go_wp2_with fail
    go_ret
    exact ⟨ret_bool Hf.out.symm, Hb5.out⟩

set_option maxRecDepth 100000 in
set_option maxHeartbeats 2000000 in
theorem eqcmds_any (B : Nat) (A : Option Addr) (n c : Nat) (l : List CT) (A2 : Option Addr) (n2 c2 : Nat) (l2 : List CT) (w : World) (hB : B ≤ w.heap.size) (hr : Rows CmdAt 4 w B ⟨A, n, c⟩ l) (hr2 : Rows CmdAt 4 w B ⟨A2, n2, c2⟩ l2) :
    Calls Tryd.prog 31 #[.slice A n c, .slice A2 n2 c2, .func (.func 32) #[] #[]] w fun e w' => e = .returned (.bool (cmdsS l l2)) ∧ Below w.heap.size w w' := by
  have hn : n ≤ 2 ^ 63 - 1 := Nat.le_trans hr.2.1 hr.2.2.1
  have hn2 : n2 ≤ 2 ^ 63 - 1 := Nat.le_trans hr2.2.1 hr2.2.2.1
  have Hl : Hid (l.length = n) := hide hr.1
  have Hl2 : Hid (l2.length = n2) := hide hr2.1
  have Hr := hide hr
  have Hr2 := hide hr2
  clear hr hr2
  by_cases hl : n = n2
  · subst hl
    have hl' : ((n : Int) != (n : Int)) = false := by simp
    go_enter Tryd.func31, Tryd.ntmps31
    go_wp2_with fail
    go_loopw [17] (fun i wr => ∃ k : Nat, k ≤ n ∧ i = .int .i64 k ∧ Hid (cmdsS (l.drop k) (l2.drop k) = cmdsS l l2) ∧ Below w.heap.size w wr) (fun i _ => n - (intOf i).toNat)
    case atStart => exact ⟨0, Nat.zero_le _, rfl, hide rfl, Below.refl _ _⟩
    case round =>
      obtain ⟨k, hk, rfl, HT, hb⟩ := hrel
      have hzr := hb.size
      by_cases hlt : k < n
      · have hlt' : ((k : Int) < (n : Int)) := by omega
        obtain ⟨b, off, s1, eA, hbB, hku, ⟨⟨⟨go, gn, gA, gl, gc⟩, ⟨c0, c1, c2⟩, hex⟩, ⟨tA, tn, tc⟩, c3, hrs⟩⟩ := ((Hr.out).keep (w' := wr) (fun b o y h1 hy => CmdAt.keep h1 hy (fun p hp => (hb.mono (by omega)).cell hp))).at_ (k := k) hlt
        obtain ⟨b2, off2, s2, eA2, hbB2, hkv, ⟨⟨⟨ho, hn, hA, hl2, hc⟩, ⟨e0, e1, e2⟩, hex2⟩, ⟨uA, un, uc⟩, e3, hrs2⟩⟩ := ((Hr2.out).keep (w' := wr) (fun b o y h1 hy => CmdAt.keep h1 hy (fun p hp => (hb.mono (by omega)).cell hp))).at_ (k := k) hlt
        simp only [SL.v] at *
        subst eA
        subst eA2
        have Hst : Hid ((cmd1 s1 s2 && cmdsS (l.drop (k + 1)) (l2.drop (k + 1))) = cmdsS l l2) := hide (by rw [← HT.out, drop_at hku, drop_at hkv, cmdsS]; rfl)
        clear hku hkv HT
        obtain ⟨hx, hy, hbn, hzn⟩ := two_blk wr #[.int .i64 go, .int .i64 gn, .slice gA gl gc, .slice tA tn tc] #[.int .i64 ho, .int .i64 hn, .slice hA hl2 hc, .slice uA un uc] 46
        have hbn0 := (Below.refl wr.heap.size wr).alloc (Nat.le_refl _) (.cells #[.int .i64 go, .int .i64 gn, .slice gA gl gc, .slice tA tn tc] 46)
        have m0 := blk_cell hx 0 rfl
        have nn0 := blk_cell hy 0 rfl
        have m1 := blk_cell hx 1 rfl
        have nn1 := blk_cell hy 1 rfl
        have m2 := blk_cell hx 2 rfl
        have nn2 := blk_cell hy 2 rfl
        have m3 := blk_cell hx 3 rfl
        have nn3 := blk_cell hy 3 rfl
        have k0 := (hbn0.cell (p := ⟨b2, off2 + k * 4, none⟩) (by show b2 < wr.heap.size; omega)).trans e0
        have k1 := (hbn0.cell (p := ⟨b2, off2 + k * 4 + 1, none⟩) (by show b2 < wr.heap.size; omega)).trans e1
        have k2 := (hbn0.cell (p := ⟨b2, off2 + k * 4 + 2, none⟩) (by show b2 < wr.heap.size; omega)).trans e2
        have k3 := (hbn0.cell (p := ⟨b2, off2 + k * 4 + 3, none⟩) (by show b2 < wr.heap.size; omega)).trans e3
        have HR := hide (RC.below (w := wr) (x := ⟨⟨go, gn, gA, gl, gc⟩, ⟨tA, tn, tc⟩⟩) (c := s1) ⟨hex, hrs⟩ (hbn.mono (by omega)))
        have HR2 := hide (RC.below (w := wr) (x := ⟨⟨ho, hn, hA, hl2, hc⟩, ⟨uA, un, uc⟩⟩) (c := s2) ⟨hex2, hrs2⟩ (hbn.mono (by omega)))
        clear hex hex2 hrs hrs2 hx hy
        have HB := hide (hb.trans (hbn.mono hzr))
        clear hb
        go_wp2_with fail
        clear c0 c1 c2 c3 e0 e1 e2 e3 m0 m1 m2 m3 nn0 nn1 nn2 nn3 k0 k1 k2 k3 hbn hbn0
        generalize (wr.alloc (.cells #[.int .i64 go, .int .i64 gn, .slice gA gl gc, .slice tA tn tc] 46)).alloc (.cells #[.int .i64 ho, .int .i64 hn, .slice hA hl2 hc, .slice uA un uc] 46) = W at *
        refine (scmd_any B ⟨⟨go, gn, gA, gl, gc⟩, ⟨tA, tn, tc⟩⟩ ⟨⟨ho, hn, hA, hl2, hc⟩, ⟨uA, un, uc⟩⟩ s1 s2 W (by omega) HR.out HR2.out).mono ?_
        rintro e w4 ⟨rfl, hb4⟩
        have Hb4 := hide (HB.out.trans (hb4.mono (by have := HB.out.size; omega)))
        clear hb4 HB
        generalize cmd1 s1 s2 = r at *
        cases r
        · have Hf : Hid (cmdsS l l2 = false) := hide (by rw [← Hst.out]; rfl)
          clear Hst
          go_wp2_with fail
          go_ret
          exact ⟨ret_bool Hf.out.symm, Hb4.out⟩
        · have Hon : Hid (cmdsS (l.drop (k + 1)) (l2.drop (k + 1)) = cmdsS l l2) := hide (by rw [← Hst.out]; rfl)
          clear Hst
          go_wp2_with fail
          go_roundw
          case rel => exact ⟨k + 1, by omega, by go_num, Hon, Hb4.out⟩
          case measure => simp [intOf]; omega
      · have hlt' : ¬ ((k : Int) < (n : Int)) := by omega
        have Hf : Hid (cmdsS l l2 = true) := hide (by rw [← HT.out, List.drop_of_length_le (by rw [Hl.out]; omega), List.drop_of_length_le (by rw [Hl2.out]; omega), cmdsS])
        go_wp2_with fail
        go_ret
        exact ⟨ret_bool Hf.out.symm, hb⟩
  · have hl' : ((n : Int) != (n2 : Int)) = true := by simp; omega
    have Hr : Hid (cmdsS l l2 = false) := hide (cmdsS_ne _ _ (by rw [Hl.out, Hl2.out]; exact hl))
    clear hl
    go_enter Tryd.func31, Tryd.ntmps31
    go_wp2_with fail
    go_ret
    exact ⟨ret_bool Hr.out.symm, Below.refl _ _⟩
end Go.Proofs.YtjpphjmehgflpaaDoor
namespace Go.Proofs.YtjpphjmehgflpaaDoor
open Go.RowKit Ex
open Go.Sort (grow)
set_option linter.unusedSimpArgs false
set_option linter.unusedVariables false

set_option maxRecDepth 100000 in
set_option maxHeartbeats 4000000 in
theorem dsame_any (B : Nat) (x y : M8) (m k : MT) (w : World) (hB : B ≤ w.heap.size) (hr : RM w B x m) (hr2 : RM w B y k) :
    Calls Tryd.prog 10 #[.agg x.cells, .agg y.cells] w fun e w' => e = .returned (.bool (modS m k)) ∧ Below w.heap.size w w' := by
  obtain ⟨hx, hy, hbn, hzn⟩ := two_blk w x.cells y.cells 28
  have Hrm := hide (hr.below (hbn.mono (by omega)))
  have Hrn := hide (hr2.below (hbn.mono (by omega)))
  have Hbx : Hid (BoxM ((w.alloc (.cells x.cells 28)).alloc (.cells y.cells 28)) w.heap.size x) := hide (fun i v hv => blk_cell hx i hv)
  have Hby : Hid (BoxM ((w.alloc (.cells x.cells 28)).alloc (.cells y.cells 28)) (w.heap.size + 1) y) := hide (fun i v hv => blk_cell hy i hv)
  have Hb := hide hbn
  have Hs : Hid (modS m k = (varsS m.vars k.vars && sameE m.ie k.ie && sameE m.is k.is && cmdsS m.env k.env && cmdsS m.sys k.sys && rowS m.asm k.asm && rowS m.ens k.ens && rowS m.prio k.prio)) := hide rfl
  obtain ⟨⟨vA1, vn1, vc1⟩, ⟨io1, im1, iA1, il1, ic1⟩, ⟨jo1, jm1, jA1, jl1, jc1⟩, ⟨eA1, en1, ec1⟩, ⟨sA1, sn1, sc1⟩, ⟨aA1, an1, ac1⟩, ⟨nA1, nn1, nc1⟩, ⟨pA1, pn1, pc1⟩⟩ := x
  obtain ⟨⟨vA2, vn2, vc2⟩, ⟨io2, im2, iA2, il2, ic2⟩, ⟨jo2, jm2, jA2, jl2, jc2⟩, ⟨eA2, en2, ec2⟩, ⟨sA2, sn2, sc2⟩, ⟨aA2, an2, ac2⟩, ⟨nA2, nn2, nc2⟩, ⟨pA2, pn2, pc2⟩⟩ := y
  clear hr hr2 hx hy hbn
  simp only [M8.cells, SL.v] at *
  obtain ⟨m0, _⟩ := Hbx.out.all
  obtain ⟨n0, _⟩ := Hby.out.all
  simp only at m0 n0
  go_enter Tryd.func10, Tryd.ntmps10
  go_wp2_with fail
  clear m0 n0
  generalize (w.alloc (.cells #[.slice vA1 vn1 vc1, .int .i64 io1, .int .i64 im1, .slice iA1 il1 ic1, .int .i64 jo1, .int .i64 jm1, .slice jA1 jl1 jc1, .slice eA1 en1 ec1, .slice sA1 sn1 sc1, .slice aA1 an1 ac1, .slice nA1 nn1 nc1, .slice pA1 pn1 pc1] 28)).alloc (.cells #[.slice vA2 vn2 vc2, .int .i64 io2, .int .i64 im2, .slice iA2 il2 ic2, .int .i64 jo2, .int .i64 jm2, .slice jA2 jl2 jc2, .slice eA2 en2 ec2, .slice sA2 sn2 sc2, .slice aA2 an2 ac2, .slice nA2 nn2 nc2, .slice pA2 pn2 pc2] 28) = W0 at *
  refine (eqvars_any B vA1 vn1 vc1 m.vars vA2 vn2 vc2 k.vars W0 Hrm.out.1.1 Hrn.out.1.1 Hrm.out.2.1 Hrn.out.2.1).mono ?_
  rintro e W1 ⟨rfl, hb⟩
  have hz1 := hb.size
  have Hb2 := hide (Hb.out.trans (hb.mono (by have := Hb.out.size; omega)))
  clear Hb
  have Hb := Hb2
  clear Hb2
  have Hrm2 := hide (Hrm.out.below (hb.mono (by omega)))
  clear Hrm
  have Hrm := Hrm2
  clear Hrm2
  have Hrn2 := hide (Hrn.out.below (hb.mono (by omega)))
  clear Hrn
  have Hrn := Hrn2
  clear Hrn2
  have Hbx2 := hide (Hbx.out.below hb (by omega))
  clear Hbx
  have Hbx := Hbx2
  clear Hbx2
  have Hby2 := hide (Hby.out.below hb (by omega))
  clear Hby
  have Hby := Hby2
  clear Hby2
  clear hb
  generalize varsS m.vars k.vars = r0 at *
  cases r0
  · have Hf : Hid (modS m k = false) := hide (by rw [Hs.out]; simp)
    go_wp2_with fail
    go_ret
    exact ⟨ret_bool Hf.out.symm, Hb.out⟩
  · skip
    obtain ⟨_, m1, m2, m3, _, _, _, _, _, _, _, _⟩ := Hbx.out.all
    obtain ⟨_, n1, n2, n3, _, _, _, _, _, _, _, _⟩ := Hby.out.all
    simp only at m1 n1 m2 n2 m3 n3
    go_wp2_with fail
    clear m1 n1 m2 n2 m3 n3
    obtain ⟨d1, hd1⟩ := Hrm.out.2.2.1
    obtain ⟨d2, hd2⟩ := Hrn.out.2.2.1
    have Hd1 := hide hd1
    have Hd2 := hide hd2
    clear hd1 hd2
    refine (same_any B d1 io1 im1 iA1 il1 ic1 m.ie d2 io2 im2 iA2 il2 ic2 k.ie W1 (by omega) Hd1.out Hd2.out).mono ?_
    rintro e W2 ⟨rfl, hb⟩
    have hz2 := hb.size
    clear Hd1 Hd2
    have Hb2 := hide (Hb.out.trans (hb.mono (by have := Hb.out.size; omega)))
    clear Hb
    have Hb := Hb2
    clear Hb2
    have Hrm2 := hide (Hrm.out.below (hb.mono (by omega)))
    clear Hrm
    have Hrm := Hrm2
    clear Hrm2
    have Hrn2 := hide (Hrn.out.below (hb.mono (by omega)))
    clear Hrn
    have Hrn := Hrn2
    clear Hrn2
    have Hbx2 := hide (Hbx.out.below hb (by omega))
    clear Hbx
    have Hbx := Hbx2
    clear Hbx2
    have Hby2 := hide (Hby.out.below hb (by omega))
    clear Hby
    have Hby := Hby2
    clear Hby2
    clear hb
    generalize sameE m.ie k.ie = r1 at *
    cases r1
    · have Hf : Hid (modS m k = false) := hide (by rw [Hs.out]; simp)
      go_wp2_with fail
      go_ret
      exact ⟨ret_bool Hf.out.symm, Hb.out⟩
    · skip
      obtain ⟨_, _, _, _, m4, m5, m6, _, _, _, _, _⟩ := Hbx.out.all
      obtain ⟨_, _, _, _, n4, n5, n6, _, _, _, _, _⟩ := Hby.out.all
      simp only at m4 n4 m5 n5 m6 n6
      go_wp2_with fail
      clear m4 n4 m5 n5 m6 n6
      obtain ⟨d1, hd1⟩ := Hrm.out.2.2.2.1
      obtain ⟨d2, hd2⟩ := Hrn.out.2.2.2.1
      have Hd1 := hide hd1
      have Hd2 := hide hd2
      clear hd1 hd2
      refine (same_any B d1 jo1 jm1 jA1 jl1 jc1 m.is d2 jo2 jm2 jA2 jl2 jc2 k.is W2 (by omega) Hd1.out Hd2.out).mono ?_
      rintro e W3 ⟨rfl, hb⟩
      have hz3 := hb.size
      clear Hd1 Hd2
      have Hb2 := hide (Hb.out.trans (hb.mono (by have := Hb.out.size; omega)))
      clear Hb
      have Hb := Hb2
      clear Hb2
      have Hrm2 := hide (Hrm.out.below (hb.mono (by omega)))
      clear Hrm
      have Hrm := Hrm2
      clear Hrm2
      have Hrn2 := hide (Hrn.out.below (hb.mono (by omega)))
      clear Hrn
      have Hrn := Hrn2
      clear Hrn2
      have Hbx2 := hide (Hbx.out.below hb (by omega))
      clear Hbx
      have Hbx := Hbx2
      clear Hbx2
      have Hby2 := hide (Hby.out.below hb (by omega))
      clear Hby
      have Hby := Hby2
      clear Hby2
      clear hb
      generalize sameE m.is k.is = r2 at *
      cases r2
      · have Hf : Hid (modS m k = false) := hide (by rw [Hs.out]; simp)
        go_wp2_with fail
        go_ret
        exact ⟨ret_bool Hf.out.symm, Hb.out⟩
      · skip
        obtain ⟨_, _, _, _, _, _, _, m7, _, _, _, _⟩ := Hbx.out.all
        obtain ⟨_, _, _, _, _, _, _, n7, _, _, _, _⟩ := Hby.out.all
        simp only at m7 n7
        go_wp2_with fail
        clear m7 n7
        refine (eqcmds_any B eA1 en1 ec1 m.env eA2 en2 ec2 k.env W3 (by omega) Hrm.out.2.2.2.2.1 Hrn.out.2.2.2.2.1).mono ?_
        rintro e W4 ⟨rfl, hb⟩
        have hz4 := hb.size
        have Hb2 := hide (Hb.out.trans (hb.mono (by have := Hb.out.size; omega)))
        clear Hb
        have Hb := Hb2
        clear Hb2
        have Hrm2 := hide (Hrm.out.below (hb.mono (by omega)))
        clear Hrm
        have Hrm := Hrm2
        clear Hrm2
        have Hrn2 := hide (Hrn.out.below (hb.mono (by omega)))
        clear Hrn
        have Hrn := Hrn2
        clear Hrn2
        have Hbx2 := hide (Hbx.out.below hb (by omega))
        clear Hbx
        have Hbx := Hbx2
        clear Hbx2
        have Hby2 := hide (Hby.out.below hb (by omega))
        clear Hby
        have Hby := Hby2
        clear Hby2
        clear hb
        generalize cmdsS m.env k.env = r3 at *
        cases r3
        · have Hf : Hid (modS m k = false) := hide (by rw [Hs.out]; simp)
          go_wp2_with fail
          go_ret
          exact ⟨ret_bool Hf.out.symm, Hb.out⟩
        · skip
          obtain ⟨_, _, _, _, _, _, _, _, m8, _, _, _⟩ := Hbx.out.all
          obtain ⟨_, _, _, _, _, _, _, _, n8, _, _, _⟩ := Hby.out.all
          simp only at m8 n8
          go_wp2_with fail
          clear m8 n8
          refine (eqcmds_any B sA1 sn1 sc1 m.sys sA2 sn2 sc2 k.sys W4 (by omega) Hrm.out.2.2.2.2.2.1 Hrn.out.2.2.2.2.2.1).mono ?_
          rintro e W5 ⟨rfl, hb⟩
          have hz5 := hb.size
          have Hb2 := hide (Hb.out.trans (hb.mono (by have := Hb.out.size; omega)))
          clear Hb
          have Hb := Hb2
          clear Hb2
          have Hrm2 := hide (Hrm.out.below (hb.mono (by omega)))
          clear Hrm
          have Hrm := Hrm2
          clear Hrm2
          have Hrn2 := hide (Hrn.out.below (hb.mono (by omega)))
          clear Hrn
          have Hrn := Hrn2
          clear Hrn2
          have Hbx2 := hide (Hbx.out.below hb (by omega))
          clear Hbx
          have Hbx := Hbx2
          clear Hbx2
          have Hby2 := hide (Hby.out.below hb (by omega))
          clear Hby
          have Hby := Hby2
          clear Hby2
          clear hb
          generalize cmdsS m.sys k.sys = r4 at *
          cases r4
          · have Hf : Hid (modS m k = false) := hide (by rw [Hs.out]; simp)
            go_wp2_with fail
            go_ret
            exact ⟨ret_bool Hf.out.symm, Hb.out⟩
          · skip
            obtain ⟨_, _, _, _, _, _, _, _, _, m9, _, _⟩ := Hbx.out.all
            obtain ⟨_, _, _, _, _, _, _, _, _, n9, _, _⟩ := Hby.out.all
            simp only at m9 n9
            go_wp2_with fail
            clear m9 n9
            refine (eqexprs_any B aA1 an1 ac1 m.asm aA2 an2 ac2 k.asm W5 (by omega) Hrm.out.2.2.2.2.2.2.1 Hrn.out.2.2.2.2.2.2.1).mono ?_
            rintro e W6 ⟨rfl, hb⟩
            have hz6 := hb.size
            have Hb2 := hide (Hb.out.trans (hb.mono (by have := Hb.out.size; omega)))
            clear Hb
            have Hb := Hb2
            clear Hb2
            have Hrm2 := hide (Hrm.out.below (hb.mono (by omega)))
            clear Hrm
            have Hrm := Hrm2
            clear Hrm2
            have Hrn2 := hide (Hrn.out.below (hb.mono (by omega)))
            clear Hrn
            have Hrn := Hrn2
            clear Hrn2
            have Hbx2 := hide (Hbx.out.below hb (by omega))
            clear Hbx
            have Hbx := Hbx2
            clear Hbx2
            have Hby2 := hide (Hby.out.below hb (by omega))
            clear Hby
            have Hby := Hby2
            clear Hby2
            clear hb
            generalize rowS m.asm k.asm = r5 at *
            cases r5
            · have Hf : Hid (modS m k = false) := hide (by rw [Hs.out]; simp)
              go_wp2_with fail
              go_ret
              exact ⟨ret_bool Hf.out.symm, Hb.out⟩
            · skip
              obtain ⟨_, _, _, _, _, _, _, _, _, _, m10, _⟩ := Hbx.out.all
              obtain ⟨_, _, _, _, _, _, _, _, _, _, n10, _⟩ := Hby.out.all
              simp only at m10 n10
              go_wp2_with fail
              clear m10 n10
              refine (eqexprs_any B nA1 nn1 nc1 m.ens nA2 nn2 nc2 k.ens W6 (by omega) Hrm.out.2.2.2.2.2.2.2.1 Hrn.out.2.2.2.2.2.2.2.1).mono ?_
              rintro e W7 ⟨rfl, hb⟩
              have hz7 := hb.size
              have Hb2 := hide (Hb.out.trans (hb.mono (by have := Hb.out.size; omega)))
              clear Hb
              have Hb := Hb2
              clear Hb2
              have Hrm2 := hide (Hrm.out.below (hb.mono (by omega)))
              clear Hrm
              have Hrm := Hrm2
              clear Hrm2
              have Hrn2 := hide (Hrn.out.below (hb.mono (by omega)))
              clear Hrn
              have Hrn := Hrn2
              clear Hrn2
              have Hbx2 := hide (Hbx.out.below hb (by omega))
              clear Hbx
              have Hbx := Hbx2
              clear Hbx2
              have Hby2 := hide (Hby.out.below hb (by omega))
              clear Hby
              have Hby := Hby2
              clear Hby2
              clear hb
              generalize rowS m.ens k.ens = r6 at *
              cases r6
              · have Hf : Hid (modS m k = false) := hide (by rw [Hs.out]; simp)
                go_wp2_with fail
                go_ret
                exact ⟨ret_bool Hf.out.symm, Hb.out⟩
              · skip
                obtain ⟨_, _, _, _, _, _, _, _, _, _, _, m11⟩ := Hbx.out.all
                obtain ⟨_, _, _, _, _, _, _, _, _, _, _, n11⟩ := Hby.out.all
                simp only at m11 n11
                go_wp2_with fail
                clear m11 n11
                refine (eqexprs_any B pA1 pn1 pc1 m.prio pA2 pn2 pc2 k.prio W7 (by omega) Hrm.out.2.2.2.2.2.2.2.2 Hrn.out.2.2.2.2.2.2.2.2).mono ?_
                rintro e W8 ⟨rfl, hb⟩
                have hz8 := hb.size
                have Hb2 := hide (Hb.out.trans (hb.mono (by have := Hb.out.size; omega)))
                clear Hb
                have Hb := Hb2
                clear Hb2
                have Hrm2 := hide (Hrm.out.below (hb.mono (by omega)))
                clear Hrm
                have Hrm := Hrm2
                clear Hrm2
                have Hrn2 := hide (Hrn.out.below (hb.mono (by omega)))
                clear Hrn
                have Hrn := Hrn2
                clear Hrn2
                have Hbx2 := hide (Hbx.out.below hb (by omega))
                clear Hbx
                have Hbx := Hbx2
                clear Hbx2
                have Hby2 := hide (Hby.out.below hb (by omega))
                clear Hby
                have Hby := Hby2
                clear Hby2
                clear hb
                generalize rowS m.prio k.prio = r7 at *
                cases r7
                · have Hf : Hid (modS m k = false) := hide (by rw [Hs.out]; simp)
                  go_wp2_with fail
                  go_ret
                  exact ⟨ret_bool Hf.out.symm, Hb.out⟩
                · have Hf : Hid (modS m k = true) := hide (by rw [Hs.out]; simp)
                  go_wp2_with fail
                  go_ret
                  exact ⟨ret_bool Hf.out.symm, Hb.out⟩
end Go.Proofs.YtjpphjmehgflpaaDoor

