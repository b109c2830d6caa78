/- The walks of slices.EqualFunc over sets and commands, and of the program's sameSet and sameCommand. -/
import Derived.Test.YtddbplgcglgloaaMDevG
namespace Go.Proofs.Ytddbplgcglgloaa
open Go.RowKit Ex
open Go.Sort (grow)
set_option linter.unusedSimpArgs false
set_option linter.unusedVariables false

def set1 (a b : ST) : Bool := (a.var == b.var) && (a.any == b.any) && sameE a.e b.e
def cmd1 (a b : CT) : Bool := sameE a.guard b.guard && setsS a.sets b.sets
set_option maxHeartbeats 1000000 in
theorem sset_any (B : Nat) (z : Int) (p : Bool) (go gn : Int) (gA : Option Addr) (gl gc : Nat) (t : T) (z2 : Int) (p2 : Bool) (ho hn : Int) (hA : Option Addr) (hl2 hc : Nat) (t2 : T) (w : World) (hB : B ≤ w.heap.size) (hex : EX w B ⟨go, gn, gA, gl, gc⟩ t) (hex2 : EX w B ⟨ho, hn, hA, hl2, hc⟩ t2) :
    Calls Try.prog 46 #[.agg #[.int .i64 z, .bool p, .int .i64 go, .int .i64 gn, .slice gA gl gc], .agg #[.int .i64 z2, .bool p2, .int .i64 ho, .int .i64 hn, .slice hA hl2 hc]] w fun e w' => e = .returned (.bool (set1 ⟨z, p, t⟩ ⟨z2, p2, t2⟩)) ∧ Below w.heap.size w w' := by
  obtain ⟨hx, hy, hbn, hzn⟩ := two_blk w #[.int .i64 z, .bool p, .int .i64 go, .int .i64 gn, .slice gA gl gc] #[.int .i64 z2, .bool p2, .int .i64 ho, .int .i64 hn, .slice hA hl2 hc] 40
  obtain ⟨d1, hex⟩ := hex
  obtain ⟨d2, hex2⟩ := hex2
  have Hex := hide (hex.below (hbn.mono (by omega)))
  have Hex2 := hide (hex2.below (hbn.mono (by omega)))
  have m0 := blk_cell hx 0 rfl
  have m1 := blk_cell hx 1 rfl
  have m2 := blk_cell hx 2 rfl
  have m3 := blk_cell hx 3 rfl
  have m4 := blk_cell hx 4 rfl
  have n0 := blk_cell hy 0 rfl
  have n1 := blk_cell hy 1 rfl
  have n2 := blk_cell hy 2 rfl
  have n3 := blk_cell hy 3 rfl
  have n4 := blk_cell hy 4 rfl
  have Hb := hide hbn
  have Hs : Hid (set1 ⟨z, p, t⟩ ⟨z2, p2, t2⟩ = ((z == z2) && (p == p2) && sameE t t2)) := hide rfl
  clear hex hex2 hx hy hbn
  cases hz : z == z2
  · have Hf : Hid (set1 ⟨z, p, t⟩ ⟨z2, p2, t2⟩ = false) := hide (by rw [Hs.out, hz]; rfl)
    go_enter Try.func46, Try.ntmps46
    go_wp2_with fail
    go_ret
    exact ⟨ret_bool Hf.out.symm, Hb.out⟩
  · cases hp : p == p2
    · have Hf : Hid (set1 ⟨z, p, t⟩ ⟨z2, p2, t2⟩ = false) := hide (by rw [Hs.out, hz, hp]; rfl)
      go_enter Try.func46, Try.ntmps46
      go_wp2_with fail
      go_ret
      exact ⟨ret_bool Hf.out.symm, Hb.out⟩
    · have Hf : Hid (set1 ⟨z, p, t⟩ ⟨z2, p2, t2⟩ = sameE t t2) := hide (by rw [Hs.out, hz, hp]; rfl)
      go_enter Try.func46, Try.ntmps46
      go_wp2_with fail
      clear m0 m1 m2 m3 m4 n0 n1 n2 n3 n4
      generalize (w.alloc (.cells #[.int .i64 z, .bool p, .int .i64 go, .int .i64 gn, .slice gA gl gc] 40)).alloc (.cells #[.int .i64 z2, .bool p2, .int .i64 ho, .int .i64 hn, .slice hA hl2 hc] 40) = W at *
      refine (same_any B d1 go gn gA gl gc t d2 ho hn hA hl2 hc t2 W (by omega) Hex.out Hex2.out).mono ?_
      rintro e w4 ⟨rfl, hb4⟩
      have Hb4 := hide (Hb.out.trans (hb4.mono (by omega)))
      clear hb4
      go_wp2_with fail
      go_ret
      exact ⟨ret_bool Hf.out.symm, Hb4.out⟩

set_option maxRecDepth 100000 in
set_option maxHeartbeats 2000000 in
theorem eqsets_any (B : Nat) (A : Option Addr) (n c : Nat) (l : List ST) (A2 : Option Addr) (n2 c2 : Nat) (l2 : List ST) (w : World) (hB : B ≤ w.heap.size) (hr : Rows SetAt 5 w B ⟨A, n, c⟩ l) (hr2 : Rows SetAt 5 w B ⟨A2, n2, c2⟩ l2) :
    Calls Try.prog 45 #[.slice A n c, .slice A2 n2 c2, .func (.func 46) #[] #[]] w fun e w' => e = .returned (.bool (setsS l l2)) ∧ Below w.heap.size w w' := by
  have hn : n ≤ 2 ^ 63 - 1 := Nat.le_trans hr.2.1 hr.2.2.1
  have hn2 : n2 ≤ 2 ^ 63 - 1 := Nat.le_trans hr2.2.1 hr2.2.2.1
  have Hl : Hid (l.length = n) := hide hr.1
  have Hl2 : Hid (l2.length = n2) := hide hr2.1
  have Hr := hide hr
  have Hr2 := hide hr2
  clear hr hr2
  by_cases hl : n = n2
  · subst hl
    have hl' : ((n : Int) != (n : Int)) = false := by simp
    go_enter Try.func45, Try.ntmps45
    go_wp2_with fail
    go_loopw [17] (fun i wr => ∃ k : Nat, k ≤ n ∧ i = .int .i64 k ∧ Hid (setsS (l.drop k) (l2.drop k) = setsS l l2) ∧ Below w.heap.size w wr) (fun i _ => n - (intOf i).toNat)
    case atStart => exact ⟨0, Nat.zero_le _, rfl, hide rfl, Below.refl _ _⟩
    case round =>
      obtain ⟨k, hk, rfl, HT, hb⟩ := hrel
      have hzr := hb.size
      by_cases hlt : k < n
      · have hlt' : ((k : Int) < (n : Int)) := by omega
        obtain ⟨b, off, s1, eA, hbB, hku, ⟨c0, c1, ⟨go, gn, gA, gl, gc⟩, ⟨c2, c3, c4⟩, hex⟩⟩ := ((Hr.out).keep (w' := wr) (fun b o y h1 hy => SetAt.keep h1 hy (fun p hp => (hb.mono (by omega)).cell hp))).at_ (k := k) hlt
        obtain ⟨b2, off2, s2, eA2, hbB2, hkv, ⟨e0, e1, ⟨ho, hn, hA, hl2, hc⟩, ⟨e2, e3, e4⟩, hex2⟩⟩ := ((Hr2.out).keep (w' := wr) (fun b o y h1 hy => SetAt.keep h1 hy (fun p hp => (hb.mono (by omega)).cell hp))).at_ (k := k) hlt
        obtain ⟨z, p, t1⟩ := s1
        obtain ⟨z2, p2, t2⟩ := s2
        simp only at *
        subst eA
        subst eA2
        have Hst : Hid ((set1 ⟨z, p, t1⟩ ⟨z2, p2, t2⟩ && setsS (l.drop (k + 1)) (l2.drop (k + 1))) = setsS l l2) := hide (by rw [← HT.out, drop_at hku, drop_at hkv, setsS]; rfl)
        clear hku hkv HT
        obtain ⟨hx, hy, hbn, hzn⟩ := two_blk wr #[.int .i64 z, .bool p, .int .i64 go, .int .i64 gn, .slice gA gl gc] #[.int .i64 z2, .bool p2, .int .i64 ho, .int .i64 hn, .slice hA hl2 hc] 40
        have hbn0 := (Below.refl wr.heap.size wr).alloc (Nat.le_refl _) (.cells #[.int .i64 z, .bool p, .int .i64 go, .int .i64 gn, .slice gA gl gc] 40)
        have m0 := blk_cell hx 0 rfl
        have nn0 := blk_cell hy 0 rfl
        have m1 := blk_cell hx 1 rfl
        have nn1 := blk_cell hy 1 rfl
        have m2 := blk_cell hx 2 rfl
        have nn2 := blk_cell hy 2 rfl
        have m3 := blk_cell hx 3 rfl
        have nn3 := blk_cell hy 3 rfl
        have m4 := blk_cell hx 4 rfl
        have nn4 := blk_cell hy 4 rfl
        have k0 := (hbn0.cell (p := ⟨b2, off2 + k * 5, none⟩) (by show b2 < wr.heap.size; omega)).trans e0
        have k1 := (hbn0.cell (p := ⟨b2, off2 + k * 5 + 1, none⟩) (by show b2 < wr.heap.size; omega)).trans e1
        have k2 := (hbn0.cell (p := ⟨b2, off2 + k * 5 + 2, none⟩) (by show b2 < wr.heap.size; omega)).trans e2
        have k3 := (hbn0.cell (p := ⟨b2, off2 + k * 5 + 3, none⟩) (by show b2 < wr.heap.size; omega)).trans e3
        have k4 := (hbn0.cell (p := ⟨b2, off2 + k * 5 + 4, none⟩) (by show b2 < wr.heap.size; omega)).trans e4
        have Hex := hide (EX.below (x := ⟨go, gn, gA, gl, gc⟩) hex (hbn.mono (by omega)))
        have Hex2 := hide (EX.below (x := ⟨ho, hn, hA, hl2, hc⟩) hex2 (hbn.mono (by omega)))
        clear hex hex2 hx hy
        have HB := hide (hb.trans (hbn.mono hzr))
        clear hb
        go_wp2_with fail
        clear c0 c1 c2 c3 c4 e0 e1 e2 e3 e4 m0 m1 m2 m3 m4 nn0 nn1 nn2 nn3 nn4 k0 k1 k2 k3 k4 hbn hbn0
        generalize (wr.alloc (.cells #[.int .i64 z, .bool p, .int .i64 go, .int .i64 gn, .slice gA gl gc] 40)).alloc (.cells #[.int .i64 z2, .bool p2, .int .i64 ho, .int .i64 hn, .slice hA hl2 hc] 40) = W at *
        refine (sset_any B z p go gn gA gl gc t1 z2 p2 ho hn hA hl2 hc t2 W (by omega) Hex.out Hex2.out).mono ?_
        rintro e w4 ⟨rfl, hb4⟩
        have Hb4 := hide (HB.out.trans (hb4.mono (by have := HB.out.size; omega)))
        clear hb4 HB
        generalize set1 ⟨z, p, t1⟩ ⟨z2, p2, t2⟩ = r at *
        cases r
        · have Hf : Hid (setsS l l2 = false) := hide (by rw [← Hst.out]; rfl)
          clear Hst
          go_wp2_with fail
          go_ret
          exact ⟨ret_bool Hf.out.symm, Hb4.out⟩
        · have Hon : Hid (setsS (l.drop (k + 1)) (l2.drop (k + 1)) = setsS l l2) := hide (by rw [← Hst.out]; rfl)
          clear Hst
          go_wp2_with fail
          go_roundw
          case rel => exact ⟨k + 1, by omega, by go_num, Hon, Hb4.out⟩
          case measure => simp [intOf]; omega
      · have hlt' : ¬ ((k : Int) < (n : Int)) := by omega
        have Hf : Hid (setsS l l2 = true) := hide (by rw [← HT.out, List.drop_of_length_le (by rw [Hl.out]; omega), List.drop_of_length_le (by rw [Hl2.out]; omega), setsS])
        go_wp2_with fail
        go_ret
        exact ⟨ret_bool Hf.out.symm, hb⟩
  · have hl' : ((n : Int) != (n2 : Int)) = true := by simp; omega
    have Hr : Hid (setsS l l2 = false) := hide (setsS_ne _ _ (by rw [Hl.out, Hl2.out]; exact hl))
    clear hl
    go_enter Try.func45, Try.ntmps45
    go_wp2_with fail
    go_ret
    exact ⟨ret_bool Hr.out.symm, Below.refl _ _⟩

set_option maxHeartbeats 1000000 in
theorem scmd_any (B : Nat) (x y : C2) (a b : CT) (w : World) (hB : B ≤ w.heap.size) (hr : RC w B x a) (hr2 : RC w B y b) :
    Calls Try.prog 30 #[.agg x.cells, .agg y.cells] w fun e w' => e = .returned (.bool (cmd1 a b)) ∧ Below w.heap.size w w' := by
  obtain ⟨⟨go, gn, gA, gl, gc⟩, ⟨tA, tn, tc⟩⟩ := x
  obtain ⟨⟨ho, hn, hA, hl2, hc⟩, ⟨uA, un, uc⟩⟩ := y
  simp only [C2.cells, SL.v]
  obtain ⟨hx, hy, hbn, hzn⟩ := two_blk w #[.int .i64 go, .int .i64 gn, .slice gA gl gc, .slice tA tn tc] #[.int .i64 ho, .int .i64 hn, .slice hA hl2 hc, .slice uA un uc] 31
  have HR := hide (hr.below (hbn.mono (by omega)))
  have HR2 := hide (hr2.below (hbn.mono (by omega)))
  have m0 := blk_cell hx 0 rfl
  have m1 := blk_cell hx 1 rfl
  have m2 := blk_cell hx 2 rfl
  have m3 := blk_cell hx 3 rfl
  have n0 := blk_cell hy 0 rfl
  have n1 := blk_cell hy 1 rfl
  have n2 := blk_cell hy 2 rfl
  have n3 := blk_cell hy 3 rfl
  have M3 := hide m3
  have N3 := hide n3
  have Hb := hide hbn
  have Hs : Hid (cmd1 a b = (sameE a.guard b.guard && setsS a.sets b.sets)) := hide rfl
  obtain ⟨d1, hex⟩ := HR.out.1
  obtain ⟨d2, hex2⟩ := HR2.out.1
  have Hex := hide hex
  have Hex2 := hide hex2
  clear hr hr2 hx hy hbn hex hex2
  go_enter Try.func30, Try.ntmps30
  go_wp2_with fail
  clear m0 m1 m2 m3 n0 n1 n2 n3
  generalize (w.alloc (.cells #[.int .i64 go, .int .i64 gn, .slice gA gl gc, .slice tA tn tc] 31)).alloc (.cells #[.int .i64 ho, .int .i64 hn, .slice hA hl2 hc, .slice uA un uc] 31) = W at *
  refine (same_any B d1 go gn gA gl gc a.guard d2 ho hn hA hl2 hc b.guard W (by omega) Hex.out Hex2.out).mono ?_
  rintro e w4 ⟨rfl, hb4⟩
  have hz4 := hb4.size
  have Hb4 := hide (Hb.out.trans (hb4.mono (by omega)))
  have HR4 := hide (HR.out.below (hb4.mono (by omega)))
  have HR24 := hide (HR2.out.below (hb4.mono (by omega)))
  have m3 := (hb4.cell (p := ⟨w.heap.size, 3, none⟩) (by show w.heap.size < W.heap.size; omega)).trans M3.out
  have n3 := (hb4.cell (p := ⟨w.heap.size + 1, 3, none⟩) (by show w.heap.size + 1 < W.heap.size; omega)).trans N3.out
  clear hb4 HR HR2 M3 N3 Hex Hex2 Hb
  generalize sameE a.guard b.guard = r at *
  cases r
  · have Hf : Hid (cmd1 a b = false) := hide (by rw [Hs.out]; rfl)
    go_wp2_with fail
    go_ret
    exact ⟨ret_bool Hf.out.symm, Hb4.out⟩
  · have Hf : Hid (cmd1 a b = setsS a.sets b.sets) := hide (by rw [Hs.out]; rfl)
    go_wp2_with fail
    clear m3 n3
    refine (eqsets_any B tA tn tc a.sets uA un uc b.sets w4 (by omega) HR4.out.2 HR24.out.2).mono ?_
    rintro e w5 ⟨rfl, hb5⟩
    have Hb5 := hide (Hb4.out.trans (hb5.mono (by omega)))
    clear hb5
    go_wp2_with fail
    go_ret
    exact ⟨ret_bool Hf.out.symm, Hb5.out⟩

set_option maxRecDepth 100000 in
set_option maxHeartbeats 2000000 in
theorem eqcmds_any (B : Nat) (A : Option Addr) (n c : Nat) (l : List CT) (A2 : Option Addr) (n2 c2 : Nat) (l2 : List CT) (w : World) (hB : B ≤ w.heap.size) (hr : Rows CmdAt 4 w B ⟨A, n, c⟩ l) (hr2 : Rows CmdAt 4 w B ⟨A2, n2, c2⟩ l2) :
    Calls Try.prog 29 #[.slice A n c, .slice A2 n2 c2, .func (.func 30) #[] #[]] w fun e w' => e = .returned (.bool (cmdsS l l2)) ∧ Below w.heap.size w w' := by
  have hn : n ≤ 2 ^ 63 - 1 := Nat.le_trans hr.2.1 hr.2.2.1
  have hn2 : n2 ≤ 2 ^ 63 - 1 := Nat.le_trans hr2.2.1 hr2.2.2.1
  have Hl : Hid (l.length = n) := hide hr.1
  have Hl2 : Hid (l2.length = n2) := hide hr2.1
  have Hr := hide hr
  have Hr2 := hide hr2
  clear hr hr2
  by_cases hl : n = n2
  · subst hl
    have hl' : ((n : Int) != (n : Int)) = false := by simp
    go_enter Try.func29, Try.ntmps29
    go_wp2_with fail
    go_loopw [17] (fun i wr => ∃ k : Nat, k ≤ n ∧ i = .int .i64 k ∧ Hid (cmdsS (l.drop k) (l2.drop k) = cmdsS l l2) ∧ Below w.heap.size w wr) (fun i _ => n - (intOf i).toNat)
    case atStart => exact ⟨0, Nat.zero_le _, rfl, hide rfl, Below.refl _ _⟩
    case round =>
      obtain ⟨k, hk, rfl, HT, hb⟩ := hrel
      have hzr := hb.size
      by_cases hlt : k < n
      · have hlt' : ((k : Int) < (n : Int)) := by omega
        obtain ⟨b, off, s1, eA, hbB, hku, ⟨⟨⟨go, gn, gA, gl, gc⟩, ⟨c0, c1, c2⟩, hex⟩, ⟨tA, tn, tc⟩, c3, hrs⟩⟩ := ((Hr.out).keep (w' := wr) (fun b o y h1 hy => CmdAt.keep h1 hy (fun p hp => (hb.mono (by omega)).cell hp))).at_ (k := k) hlt
        obtain ⟨b2, off2, s2, eA2, hbB2, hkv, ⟨⟨⟨ho, hn, hA, hl2, hc⟩, ⟨e0, e1, e2⟩, hex2⟩, ⟨uA, un, uc⟩, e3, hrs2⟩⟩ := ((Hr2.out).keep (w' := wr) (fun b o y h1 hy => CmdAt.keep h1 hy (fun p hp => (hb.mono (by omega)).cell hp))).at_ (k := k) hlt
        simp only [SL.v] at *
        subst eA
        subst eA2
        have Hst : Hid ((cmd1 s1 s2 && cmdsS (l.drop (k + 1)) (l2.drop (k + 1))) = cmdsS l l2) := hide (by rw [← HT.out, drop_at hku, drop_at hkv, cmdsS]; rfl)
        clear hku hkv HT
        obtain ⟨hx, hy, hbn, hzn⟩ := two_blk wr #[.int .i64 go, .int .i64 gn, .slice gA gl gc, .slice tA tn tc] #[.int .i64 ho, .int .i64 hn, .slice hA hl2 hc, .slice uA un uc] 31
        have hbn0 := (Below.refl wr.heap.size wr).alloc (Nat.le_refl _) (.cells #[.int .i64 go, .int .i64 gn, .slice gA gl gc, .slice tA tn tc] 31)
        have m0 := blk_cell hx 0 rfl
        have nn0 := blk_cell hy 0 rfl
        have m1 := blk_cell hx 1 rfl
        have nn1 := blk_cell hy 1 rfl
        have m2 := blk_cell hx 2 rfl
        have nn2 := blk_cell hy 2 rfl
        have m3 := blk_cell hx 3 rfl
        have nn3 := blk_cell hy 3 rfl
        have k0 := (hbn0.cell (p := ⟨b2, off2 + k * 4, none⟩) (by show b2 < wr.heap.size; omega)).trans e0
        have k1 := (hbn0.cell (p := ⟨b2, off2 + k * 4 + 1, none⟩) (by show b2 < wr.heap.size; omega)).trans e1
        have k2 := (hbn0.cell (p := ⟨b2, off2 + k * 4 + 2, none⟩) (by show b2 < wr.heap.size; omega)).trans e2
        have k3 := (hbn0.cell (p := ⟨b2, off2 + k * 4 + 3, none⟩) (by show b2 < wr.heap.size; omega)).trans e3
        have HR := hide (RC.below (w := wr) (x := ⟨⟨go, gn, gA, gl, gc⟩, ⟨tA, tn, tc⟩⟩) (c := s1) ⟨hex, hrs⟩ (hbn.mono (by omega)))
        have HR2 := hide (RC.below (w := wr) (x := ⟨⟨ho, hn, hA, hl2, hc⟩, ⟨uA, un, uc⟩⟩) (c := s2) ⟨hex2, hrs2⟩ (hbn.mono (by omega)))
        clear hex hex2 hrs hrs2 hx hy
        have HB := hide (hb.trans (hbn.mono hzr))
        clear hb
        go_wp2_with fail
        clear c0 c1 c2 c3 e0 e1 e2 e3 m0 m1 m2 m3 nn0 nn1 nn2 nn3 k0 k1 k2 k3 hbn hbn0
        generalize (wr.alloc (.cells #[.int .i64 go, .int .i64 gn, .slice gA gl gc, .slice tA tn tc] 31)).alloc (.cells #[.int .i64 ho, .int .i64 hn, .slice hA hl2 hc, .slice uA un uc] 31) = W at *
        refine (scmd_any B ⟨⟨go, gn, gA, gl, gc⟩, ⟨tA, tn, tc⟩⟩ ⟨⟨ho, hn, hA, hl2, hc⟩, ⟨uA, un, uc⟩⟩ s1 s2 W (by omega) HR.out HR2.out).mono ?_
        rintro e w4 ⟨rfl, hb4⟩
        have Hb4 := hide (HB.out.trans (hb4.mono (by have := HB.out.size; omega)))
        clear hb4 HB
        generalize cmd1 s1 s2 = r at *
        cases r
        · have Hf : Hid (cmdsS l l2 = false) := hide (by rw [← Hst.out]; rfl)
          clear Hst
          go_wp2_with fail
          go_ret
          exact ⟨ret_bool Hf.out.symm, Hb4.out⟩
        · have Hon : Hid (cmdsS (l.drop (k + 1)) (l2.drop (k + 1)) = cmdsS l l2) := hide (by rw [← Hst.out]; rfl)
          clear Hst
          go_wp2_with fail
          go_roundw
          case rel => exact ⟨k + 1, by omega, by go_num, Hon, Hb4.out⟩
          case measure => simp [intOf]; omega
      · have hlt' : ¬ ((k : Int) < (n : Int)) := by omega
        have Hf : Hid (cmdsS l l2 = true) := hide (by rw [← HT.out, List.drop_of_length_le (by rw [Hl.out]; omega), List.drop_of_length_le (by rw [Hl2.out]; omega), cmdsS])
        go_wp2_with fail
        go_ret
        exact ⟨ret_bool Hf.out.symm, hb⟩
  · have hl' : ((n : Int) != (n2 : Int)) = true := by simp; omega
    have Hr : Hid (cmdsS l l2 = false) := hide (cmdsS_ne _ _ (by rw [Hl.out, Hl2.out]; exact hl))
    clear hl
    go_enter Try.func29, Try.ntmps29
    go_wp2_with fail
    go_ret
    exact ⟨ret_bool Hr.out.symm, Below.refl _ _⟩
end Go.Proofs.Ytddbplgcglgloaa
