/- The walks of slices.EqualFunc over expressions, sets and commands, and of the program's sameSet and sameCommand. -/
import Derived.Test.YtddbplgcglgloaaMDevF
namespace Go.Proofs.Ytddbplgcglgloaa
open Go.RowKit Ex
open Go.Sort (grow)
set_option linter.unusedSimpArgs false
set_option linter.unusedVariables false

set_option maxRecDepth 100000 in
set_option maxHeartbeats 2000000 in
theorem eqexprs_any (B : Nat) (A : Option Addr) (n c : Nat) (l : List T) (A2 : Option Addr) (n2 c2 : Nat) (l2 : List T) (w : World) (hB : B ≤ w.heap.size) (hr : Rows ExAt 3 w B ⟨A, n, c⟩ l) (hr2 : Rows ExAt 3 w B ⟨A2, n2, c2⟩ l2) :
    Calls Try.prog 31 #[.slice A n c, .slice A2 n2 c2, .func (.func 28) #[] #[]] w fun e w' => e = .returned (.bool (rowS l l2)) ∧ Below w.heap.size w w' := by
  have hn : n ≤ 2 ^ 63 - 1 := Nat.le_trans hr.2.1 hr.2.2.1
  have hn2 : n2 ≤ 2 ^ 63 - 1 := Nat.le_trans hr2.2.1 hr2.2.2.1
  have Hl : Hid (l.length = n) := hide hr.1
  have Hl2 : Hid (l2.length = n2) := hide hr2.1
  have Hr := hide hr
  have Hr2 := hide hr2
  clear hr hr2
  by_cases hl : n = n2
  · subst hl
    have hl' : ((n : Int) != (n : Int)) = false := by simp
    go_enter Try.func31, Try.ntmps31
    go_wp2_with fail
    go_loopw [17] (fun i wr => ∃ k : Nat, k ≤ n ∧ i = .int .i64 k ∧ Hid (rowS (l.drop k) (l2.drop k) = rowS l l2) ∧ Below w.heap.size w wr) (fun i _ => n - (intOf i).toNat)
    case atStart => exact ⟨0, Nat.zero_le _, rfl, hide rfl, Below.refl _ _⟩
    case round =>
      obtain ⟨k, hk, rfl, HT, hb⟩ := hrel
      have hzr := hb.size
      by_cases hlt : k < n
      · have hlt' : ((k : Int) < (n : Int)) := by omega
        obtain ⟨b, off, s1, eA, hbB, hku, ⟨⟨go, gn, gA, gl, gc⟩, ⟨c0, c1, c2⟩, ⟨d1, hex⟩⟩⟩ := ((Hr.out).keep (w' := wr) (fun b o y h1 hy => ExAt.keep h1 hy (fun p hp => (hb.mono (by omega)).cell hp))).at_ (k := k) hlt
        obtain ⟨b2, off2, s2, eA2, hbB2, hkv, ⟨⟨ho, hn, hA, hl2, hc⟩, ⟨c5, c6, c7⟩, ⟨d2, hex2⟩⟩⟩ := ((Hr2.out).keep (w' := wr) (fun b o y h1 hy => ExAt.keep h1 hy (fun p hp => (hb.mono (by omega)).cell hp))).at_ (k := k) hlt
        simp only [SL.v] at *
        subst eA
        subst eA2
        have Hst : Hid ((sameE s1 s2 && rowS (l.drop (k + 1)) (l2.drop (k + 1))) = rowS l l2) := hide (by rw [← HT.out, drop_at hku, drop_at hkv, rowS])
        clear hku hkv HT
        obtain ⟨hx, hy, hbn, hzn⟩ := two_blk wr #[.int .i64 go, .int .i64 gn, .slice gA gl gc] #[.int .i64 ho, .int .i64 hn, .slice hA hl2 hc] 25
        have hbn0 := (Below.refl wr.heap.size wr).alloc (Nat.le_refl _) (.cells #[.int .i64 go, .int .i64 gn, .slice gA gl gc] 25)
        have m0 := blk_cell hx 0 rfl
        have n0 := blk_cell hy 0 rfl
        have m1 := blk_cell hx 1 rfl
        have n1 := blk_cell hy 1 rfl
        have m2 := blk_cell hx 2 rfl
        have n2_ := blk_cell hy 2 rfl
        have k0 := (hbn0.cell (p := ⟨b2, off2 + k * 3, none⟩) (by show b2 < wr.heap.size; omega)).trans c5
        have k1 := (hbn0.cell (p := ⟨b2, off2 + k * 3 + 1, none⟩) (by show b2 < wr.heap.size; omega)).trans c6
        have k2 := (hbn0.cell (p := ⟨b2, off2 + k * 3 + 2, none⟩) (by show b2 < wr.heap.size; omega)).trans c7
        have Hex := hide (hex.below (hbn.mono (by omega)))
        have Hex2 := hide (hex2.below (hbn.mono (by omega)))
        clear hex hex2 hx hy
        have HB := hide (hb.trans (hbn.mono hzr))
        clear hb
        go_wp2_with fail
        clear c0 c1 c2 c5 c6 c7 m0 m1 m2 n0 n1 n2_ k0 k1 k2 hbn hbn0
        generalize (wr.alloc (.cells #[.int .i64 go, .int .i64 gn, .slice gA gl gc] 25)).alloc (.cells #[.int .i64 ho, .int .i64 hn, .slice hA hl2 hc] 25) = W at *
        refine (same_any B d1 go gn gA gl gc s1 d2 ho hn hA hl2 hc s2 W (by omega) Hex.out Hex2.out).mono ?_
        rintro e w4 ⟨rfl, hb4⟩
        have Hb4 := hide (HB.out.trans (hb4.mono (by have := HB.out.size; omega)))
        clear hb4 HB
        generalize sameE s1 s2 = r at *
        cases r
        · have Hf : Hid (rowS l l2 = false) := hide (by rw [← Hst.out]; rfl)
          clear Hst
          go_wp2_with fail
          go_ret
          exact ⟨ret_bool Hf.out.symm, Hb4.out⟩
        · have Hon : Hid (rowS (l.drop (k + 1)) (l2.drop (k + 1)) = rowS l l2) := hide (by rw [← Hst.out]; rfl)
          clear Hst
          go_wp2_with fail
          go_roundw
          case rel => exact ⟨k + 1, by omega, by go_num, Hon, Hb4.out⟩
          case measure => simp [intOf]; omega
      · have hlt' : ¬ ((k : Int) < (n : Int)) := by omega
        have Hf : Hid (rowS l l2 = true) := hide (by rw [← HT.out, List.drop_of_length_le (by rw [Hl.out]; omega), List.drop_of_length_le (by rw [Hl2.out]; omega), rowS])
        go_wp2_with fail
        go_ret
        exact ⟨ret_bool Hf.out.symm, hb⟩
  · have hl' : ((n : Int) != (n2 : Int)) = true := by simp; omega
    have Hr : Hid (rowS l l2 = false) := hide (rowS_ne _ _ (by rw [Hl.out, Hl2.out]; exact hl))
    clear hl
    go_enter Try.func31, Try.ntmps31
    go_wp2_with fail
    go_ret
    exact ⟨ret_bool Hr.out.symm, Below.refl _ _⟩
end Go.Proofs.Ytddbplgcglgloaa
