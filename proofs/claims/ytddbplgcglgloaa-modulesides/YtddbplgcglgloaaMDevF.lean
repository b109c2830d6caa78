/- The walks of slices.Equal over variables, slices.EqualFunc over expressions, sets and commands, and of the program's sameSet, sameCommand and Same. -/
import Derived.Test.YtddbplgcglgloaaMDevE
import Derived.Test.YtddbplgcglgloaaMSmall
import Derived.Laws.StructEq
namespace Go.Proofs.Ytddbplgcglgloaa
open Go.RowKit Ex
open Go.Sort (grow)
set_option linter.unusedSimpArgs false
set_option linter.unusedVariables false

def varB (a b : Dom.V) : Bool := (a.nm.data == b.nm.data) && (a.env == b.env) && (a.srt == b.srt) && (a.lo == b.lo) && (a.hi == b.hi)
theorem neq_var (a b : Dom.V) (w : World) : (binOp .neq 42 (.agg #[.string a.nm, .bool a.env, .int .i64 a.srt, .int .i64 a.lo, .int .i64 a.hi]) (.agg #[.string b.nm, .bool b.env, .int .i64 b.srt, .int .i64 b.lo, .int .i64 b.hi])).run Try.prog w = .ok (.bool (!varB a b)) w := by
  rw [run_neq_struct, show (10000 : Nat) = 9998 + 1 + 1 from rfl, run_equalIn_agg w 9999 42 _ _ (by kernel_rfl) (by kernel_rfl)]
  unfold varB
  rw [show (a.nm.data == b.nm.data) = (a.nm.toList == b.nm.toList) by rw [← beq_toListBytes]; rfl]
  simp [go_sem]
  by_cases h1 : a.nm.toList = b.nm.toList
  · by_cases h2 : a.env = b.env
    · by_cases h3 : a.srt = b.srt
      · by_cases h4 : a.lo = b.lo
        · by_cases h5 : a.hi = b.hi
          · simp [h1, h2, h3, h4, h5]
          · simp [h1, h2, h3, h4, h5]
        · simp [h1, h2, h3, h4]
      · simp [h1, h2, h3]
    · simp [h1, h2]
  · simp [h1]
theorem varsS_ne : ∀ (a b : List Dom.V), ¬ a.length = b.length → varsS a b = false
  | [], [], h => absurd rfl h
  | [], _ :: _, _ => by rw [varsS]
  | _ :: _, [], _ => by rw [varsS]
  | a :: r, b :: s, h => by rw [varsS, varsS_ne r s (fun e => h (by simp [e]))]; simp
theorem rowS_ne : ∀ (a b : List T), ¬ a.length = b.length → rowS a b = false
  | [], [], h => absurd rfl h
  | [], _ :: _, _ => by rw [rowS]
  | _ :: _, [], _ => by rw [rowS]
  | a :: r, b :: s, h => by rw [rowS, rowS_ne r s (fun e => h (by simp [e]))]; simp
theorem setsS_ne : ∀ (a b : List ST), ¬ a.length = b.length → setsS a b = false
  | [], [], h => absurd rfl h
  | [], _ :: _, _ => by rw [setsS]
  | _ :: _, [], _ => by rw [setsS]
  | a :: r, b :: s, h => by rw [setsS, setsS_ne r s (fun e => h (by simp [e]))]; simp
theorem cmdsS_ne : ∀ (a b : List CT), ¬ a.length = b.length → cmdsS a b = false
  | [], [], h => absurd rfl h
  | [], _ :: _, _ => by rw [cmdsS]
  | _ :: _, [], _ => by rw [cmdsS]
  | a :: r, b :: s, h => by rw [cmdsS, cmdsS_ne r s (fun e => h (by simp [e]))]; simp
theorem two_blk (w : World) (X Y : Array Value) (t : Nat) : ((w.alloc (.cells X t)).alloc (.cells Y t)).heap[w.heap.size]? = some (.cells X t (0, 0)) ∧ ((w.alloc (.cells X t)).alloc (.cells Y t)).heap[w.heap.size + 1]? = some (.cells Y t (0, 0)) ∧ Below w.heap.size w ((w.alloc (.cells X t)).alloc (.cells Y t)) ∧ w.heap.size + 2 ≤ ((w.alloc (.cells X t)).alloc (.cells Y t)).heap.size :=
  ⟨up_at (new_at rfl), new_at (by simp), ((Below.refl _ _).alloc (Nat.le_refl _) _).alloc (by simp) _, by simp⟩
theorem blk_cell {w : World} {b : Nat} {X : Array Value} {t : Nat} (h : w.heap[b]? = some (.cells X t (0, 0))) (i : Nat) {v : Value} (hv : X[i]? = some v) : w.cell? ⟨b, i, none⟩ = some v := by
  rw [cell_of_row _ _ i X t (0, 0) h]; exact hv

set_option maxRecDepth 100000 in
set_option maxHeartbeats 2000000 in
theorem eqvars_any (B : Nat) (A : Option Addr) (n c : Nat) (l : List Dom.V) (A2 : Option Addr) (n2 c2 : Nat) (l2 : List Dom.V) (w : World) (hn : n ≤ maxLen) (hn2 : n2 ≤ maxLen) (hrv : Dom.RV w B A n l) (hrv2 : Dom.RV w B A2 n2 l2) :
    Calls Try.prog 27 #[.slice A n c, .slice A2 n2 c2] w fun e w' => e = .returned (.bool (varsS l l2)) ∧ Below w.heap.size w w' := by
  unfold maxLen at hn hn2
  have Hl := hide hrv.1
  have Hl2 := hide hrv2.1
  have Hrv := hide hrv
  have Hrv2 := hide hrv2
  clear hrv hrv2
  by_cases hl : n = n2
  · subst hl
    have hl' : ((n : Int) != (n : Int)) = false := by simp
    go_enter Try.func27, Try.ntmps27
    go_wp2_with fail
    go_loopw [13] (fun i wr => ∃ k : Nat, k ≤ n ∧ i = .int .i64 k ∧ Hid (varsS (l.drop k) (l2.drop k) = varsS l l2) ∧ Below w.heap.size w wr ∧ Hid (Dom.RV wr B A n l) ∧ Hid (Dom.RV wr B A2 n l2)) (fun i _ => n - (intOf i).toNat)
    case atStart => exact ⟨0, Nat.zero_le _, rfl, hide rfl, Below.refl _ _, Hrv, Hrv2⟩
    case round =>
      obtain ⟨k, hk, rfl, HT, hb, Hv, Hv2⟩ := hrel
      by_cases hlt : k < n
      · have hlt' : ((k : Int) < (n : Int)) := by omega
        obtain ⟨b, off, v, rfl, hbB, hku, g0, g1, g2, g3, g4⟩ := Hv.out.at_ hlt
        obtain ⟨b2, off2, v2, rfl, hbB2, hkv, e0, e1, e2, e3, e4⟩ := Hv2.out.at_ hlt
        have hcmp := neq_var v v2
        have Hst : Hid ((varB v v2 && varsS (l.drop (k + 1)) (l2.drop (k + 1))) = varsS l l2) := hide (by rw [← HT.out, drop_at hku, drop_at hkv, varsS]; rfl)
        clear hku hkv HT
        generalize varB v v2 = r at *
        cases r
        · have Hf : Hid (varsS l l2 = false) := hide (by rw [← Hst.out]; rfl)
          clear Hst
          go_wp2_with fail
          go_quiet (fail)
          go_wp2_with fail
          go_ret
          exact ⟨ret_bool Hf.out.symm, below_drewN hb _⟩
        · have Hon : Hid (varsS (l.drop (k + 1)) (l2.drop (k + 1)) = varsS l l2) := hide (by rw [← Hst.out]; rfl)
          clear Hst
          go_wp2_with fail
          go_quiet (fail)
          go_wp2_with fail
          go_roundw
          case rel => exact ⟨k + 1, by omega, by go_num, Hon, below_drewN hb _, hide (Hv.out.below (below_drewN (Below.refl _ _) _)), hide (Hv2.out.below (below_drewN (Below.refl _ _) _))⟩
          case measure => simp [intOf]; omega
      · have hlt' : ¬ ((k : Int) < (n : Int)) := by omega
        have Hf : Hid (varsS l l2 = true) := hide (by rw [← HT.out, List.drop_of_length_le (by rw [Hl.out]; omega), List.drop_of_length_le (by rw [Hl2.out]; omega), varsS])
        go_wp2_with fail
        go_ret
        exact ⟨ret_bool Hf.out.symm, hb⟩
  · have hl' : ((n : Int) != (n2 : Int)) = true := by simp; omega
    have Hr : Hid (varsS l l2 = false) := hide (varsS_ne _ _ (by rw [Hl.out, Hl2.out]; exact hl))
    clear hl
    go_enter Try.func27, Try.ntmps27
    go_wp2_with fail
    go_ret
    exact ⟨ret_bool Hr.out.symm, Below.refl _ _⟩
end Go.Proofs.Ytddbplgcglgloaa
