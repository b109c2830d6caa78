/- The walks of the program's Only and Follow, and of what they hand over. -/
import Derived.Test.YtdcdpknlloffjaaGThinB
namespace Go.Proofs.Ytdcdpknlloffjaa.Gr
open Go.RowKit
set_option linter.unusedSimpArgs false
set_option linter.unusedVariables false

def pOnly (l : List Bool) (v : Nat) (x : Int) : Bool := hasB l (v : Int) && hasB l x
def pFoll (g : GT) (who : Int) (l : List Int) (v : Nat) (x : Int) : Bool := !(g.own.getD v 0 == who) || (decide (v < l.length) && (l.getD v 0 == x))
theorem hasB_nat (l : List Bool) (k : Nat) : hasB l (k : Int) = l.getD k false := by simp [hasB]
theorem inOnly_any (B cb : Nat) (A : Option Addr) (n c : Nat) (l : List Bool) (v x : Nat) (X : World) (hc : X.cell? ⟨cb, 0, none⟩ = some (.slice A n c)) (hr : RB X B ⟨A, n, c⟩ l) :
    Calls Try.prog 36 #[.int .i64 (v : Int), .int .i64 (x : Int), .pointer (some ⟨cb, 0, none⟩)] X fun e w' => e = .returned (.bool (pOnly l v (x : Int))) ∧ Below X.heap.size X w' := by
  have Hp : Hid (pOnly l v (x : Int) = (l.getD v false && l.getD x false)) := hide (by unfold pOnly; rw [hasB_nat, hasB_nat])
  go_enter Try.func36, Try.ntmps36
  go_wp2_with fail
  refine (isIn_any B A n c l v X hr).mono ?_
  rintro e w1 ⟨rfl, rfl⟩
  cases h1 : l.getD v false
  · have Hf : Hid (pOnly l v (x : Int) = false) := hide (by rw [Hp.out, h1]; rfl)
    clear h1
    go_wp2_with fail
    go_ret
    exact ⟨ret_bool Hf.out.symm, Below.refl _ _⟩
  · have Hf : Hid (pOnly l v (x : Int) = l.getD x false) := hide (by rw [Hp.out, h1]; rfl)
    clear h1
    go_wp2_with fail
    refine (isIn_any B A n c l x _ hr).mono ?_
    rintro e w1 ⟨rfl, rfl⟩
    go_wp2_with fail
    go_ret
    exact ⟨ret_bool Hf.out.symm, Below.refl _ _⟩
set_option maxHeartbeats 1000000 in
theorem inFoll_any (B cb cb1 cb2 : Nat) (OA NA A : Option Addr) (on oc nn nc n c : Nat) (g : GT) (who : Int) (l : List Int) (v x : Nat) (X : World) (hv : v < on)
    (hc0 : X.cell? ⟨cb, 0, none⟩ = some (.slice OA on oc)) (hc1 : X.cell? ⟨cb1, 0, none⟩ = some (.int .i64 who)) (hc2 : X.cell? ⟨cb2, 0, none⟩ = some (.slice A n c)) (hg : RI X B ⟨OA, on, oc⟩ g.own) (hr : RI X B ⟨A, n, c⟩ l) :
    Calls Try.prog 38 #[.int .i64 (v : Int), .int .i64 (x : Int), .pointer (some ⟨cb, 0, none⟩), .pointer (some ⟨cb1, 0, none⟩), .pointer (some ⟨cb2, 0, none⟩)] X fun e w' => e = .returned (.bool (pFoll g who l v (x : Int))) ∧ Below X.heap.size X w' := by
  obtain ⟨b4, off4, x0, rfl, hbB4, hx0, hc4⟩ := hg.at_ hv
  have hvn : (v : Int) < (on : Int) := by omega
  have hv0 : (0 : Int) ≤ (v : Int) := by omega
  have Hpd : Hid (pFoll g who l v (x : Int) = (!(x0 == who) || (decide (v < l.length) && (l.getD v 0 == (x : Int))))) := hide (by unfold pFoll; rw [getD_at hx0])
  have Hl := hide hr.len
  have Hr := hide hr
  clear hx0 hg hr
  cases hxw : x0 != who
  · have hx1 : (x0 == who) = true := by simpa [bne] using hxw
    by_cases hkn : v < n
    · have hkn' : (v : Int) < (n : Int) := by omega
      obtain ⟨b5, off5, y, rfl, hbB5, hy, hc5⟩ := Hr.out.at_ hkn
      have hd : decide (v < l.length) = true := by simpa using (List.getElem?_eq_some_iff.1 hy).1
      have Hf : Hid (pFoll g who l v (x : Int) = (y == (x : Int))) := hide (by rw [Hpd.out, hx1, hd, getD_at hy]; rfl)
      clear hy hd hx1
      cases hyq : y == (x : Int)
      · have Hf2 : Hid (pFoll g who l v (x : Int) = false) := hide (by rw [Hf.out, hyq])
        go_enter Try.func38, Try.ntmps38
        go_wp2_with fail
        go_quiet (fail)
        go_wp2_with fail
        go_ret
        exact ⟨ret_bool Hf2.out.symm, ⟨rfl, rfl, rfl, Nat.le_refl _, fun _ _ => rfl⟩⟩
      · have Hf2 : Hid (pFoll g who l v (x : Int) = true) := hide (by rw [Hf.out, hyq])
        go_enter Try.func38, Try.ntmps38
        go_wp2_with fail
        go_quiet (fail)
        go_wp2_with fail
        go_ret
        exact ⟨ret_bool Hf2.out.symm, ⟨rfl, rfl, rfl, Nat.le_refl _, fun _ _ => rfl⟩⟩
    · have hkn' : ¬ (v : Int) < (n : Int) := by omega
      have Hf : Hid (pFoll g who l v (x : Int) = false) := hide (by rw [Hpd.out, hx1, decide_eq_false (by have h := Hl.out; simp only at h; omega)]; rfl)
      clear hx1
      go_enter Try.func38, Try.ntmps38
      go_wp2_with fail
      go_quiet (fail)
      go_wp2_with fail
      go_ret
      exact ⟨ret_bool Hf.out.symm, ⟨rfl, rfl, rfl, Nat.le_refl _, fun _ _ => rfl⟩⟩
  · have hx1 : (x0 == who) = false := by simpa [bne] using hxw
    have Hf : Hid (pFoll g who l v (x : Int) = true) := hide (by rw [Hpd.out, hx1]; rfl)
    clear hx1
    go_enter Try.func38, Try.ntmps38
    go_wp2_with fail
    go_quiet (fail)
    go_wp2_with fail
    go_ret
    exact ⟨ret_bool Hf.out.symm, ⟨rfl, rfl, rfl, Nat.le_refl _, fun _ _ => rfl⟩⟩
set_option maxHeartbeats 1000000 in
theorem only_any (B : Nat) (OA NA : Option Addr) (on oc nn nc : Nat) (g : GT) (A : Option Addr) (n c : Nat) (l : List Bool) (w : World) (hB : B ≤ w.heap.size) (hg : RG w B ⟨OA, on, oc⟩ ⟨NA, nn, nc⟩ g) (hr : RB w B ⟨A, n, c⟩ l) :
    Calls Try.prog 22 #[.agg #[.slice OA on oc, .slice NA nn nc], .slice A n c] w (GamePost w (thinG (pOnly l) g)) := by
  have hb3 : Below w.heap.size w (((w.alloc (.cells #[.slice OA on oc, .slice NA nn nc] 25)).alloc (.cells #[.slice A n c] 26)).alloc (.cells #[.slice none 0 0, .slice none 0 0] 25)) := (((Below.refl _ _).alloc (Nat.le_refl _) _).alloc (by simp) _).alloc (by simp; omega) _
  have e1 := heap_alloc_new (w.alloc (.cells #[.slice OA on oc, .slice NA nn nc] 25)) (.cells #[.slice A n c] 26)
  have e2 := heap_alloc_new ((w.alloc (.cells #[.slice OA on oc, .slice NA nn nc] 25)).alloc (.cells #[.slice A n c] 26)) (.cells #[.slice none 0 0, .slice none 0 0] 25)
  rw [size_al] at e1
  rw [size_al, size_al] at e2
  have e1' := (Below.heap_alloc _ (.cells #[.slice none 0 0, .slice none 0 0] 25) (w.heap.size + 1) (by rw [size_al, size_al]; omega)).trans e1
  have E1 := hide e1'
  have E2 := hide e2
  have hz : (((w.alloc (.cells #[.slice OA on oc, .slice NA nn nc] 25)).alloc (.cells #[.slice A n c] 26)).alloc (.cells #[.slice none 0 0, .slice none 0 0] 25)).heap.size = w.heap.size + 3 := by rw [size_al, size_al, size_al]
  have Hz := hide hz
  have Hg := hide (hg.below (hb3.mono hB))
  have Hr := hide (hr.below (hb3.mono hB))
  have Hb3 := hide hb3
  have hmf : ∀ (fn : Fn) (first cap : Array Value) (w : World), (Instr.makeFunc fn first cap).run Try.prog w = .ok (.func fn first cap) w := fun _ _ _ _ => rfl
  clear hg hr hb3 e1 e1' e2 hz
  go_enter Try.func22, Try.ntmps22
  go_wp2_with fail
  clear hmf
  generalize ((w.alloc (.cells #[.slice OA on oc, .slice NA nn nc] 25)).alloc (.cells #[.slice A n c] 26)).alloc (.cells #[.slice none 0 0, .slice none 0 0] 25) = w1 at *
  refine (thin36_any B OA NA on oc nn nc g (pOnly l) (w.heap.size + 1) w1 (by have := Hz.out; omega) Hg.out (fun v x X hX hv hx => inOnly_any B (w.heap.size + 1) A n c l v x X ((hX.cell (p := ⟨w.heap.size + 1, 0, none⟩) (by show w.heap.size + 1 < _; have := Hz.out; omega)).trans (by simp [World.cell?, E1.out])) (Hr.out.below (hX.mono (by have := Hz.out; omega))))).mono ?_
  rintro e w2 ⟨⟨oA, o1, o2⟩, ⟨nA, n1, n2⟩, rfl, hnew, hb⟩
  have hsz := hb.size
  have E3 : Hid (w2.heap[w.heap.size + 2]? = some (.cells #[.slice none 0 0, .slice none 0 0] 25 (0, 0))) := hide ((hb.block _ (by have := Hz.out; omega)).trans E2.out)
  have r0 : w2.cell? ⟨w.heap.size + 2, 0, none⟩ = some (.slice none 0 0) := by simp [World.cell?, E3.out]
  have r1 : w2.cell? ⟨w.heap.size + 2, 1, none⟩ = some (.slice none 0 0) := by simp [World.cell?, E3.out]
  have z0 : w2.frozen? ⟨w.heap.size + 2, 0, none⟩ = false := by simp [World.frozen?, E3.out]
  have z1 : w2.frozen? ⟨w.heap.size + 2, 1, none⟩ = false := by simp [World.frozen?, E3.out]
  obtain ⟨s0, s1⟩ := cells2 (a0 := .slice oA o1 o2) (a1 := .slice nA n1 n2) r0 r1
  have Hs0 := hide s0
  have Hs1 := hide s1
  have hs : ((w2.setCell ⟨w.heap.size + 2, 0, none⟩ (.slice oA o1 o2)).setCell ⟨w.heap.size + 2, 1, none⟩ (.slice nA n1 n2)).heap.size = w2.heap.size := by simp [World.setCell]
  have Hnew := hide (hnew.on (lo' := w.heap.size) (by have := Hz.out; omega) (w2 := (w2.setCell ⟨w.heap.size + 2, 0, none⟩ (.slice oA o1 o2)).setCell ⟨w.heap.size + 2, 1, none⟩ (.slice nA n1 n2)) (by rw [hs]; exact Nat.le_refl _) (fun k hk _ => by have := Hz.out; rw [Below.heap_setCell _ _ _ _ (by show k ≠ w.heap.size + 2; omega), Below.heap_setCell _ _ _ _ (by show k ≠ w.heap.size + 2; omega)]))
  have Hbe := hide (((Hb3.out.trans (hb.mono (by have := Hz.out; omega))).setCell (p := ⟨w.heap.size + 2, 0, none⟩) (by show w.heap.size ≤ w.heap.size + 2; omega) (.slice oA o1 o2)).setCell (p := ⟨w.heap.size + 2, 1, none⟩) (by show w.heap.size ≤ w.heap.size + 2; omega) (.slice nA n1 n2))
  clear s0 s1 hs hnew hb
  simp only [SL.v]
  go_wp2_with fail
  have s0 := Hs0.out
  have s1 := Hs1.out
  refine bodyPost_ret (v := .agg #[.slice oA o1 o2, .slice nA n1 n2]) (by simp [results, Try.results22, go_sem, s0, s1]) rfl ?_
  exact ⟨⟨oA, o1, o2⟩, ⟨nA, n1, n2⟩, rfl, Hnew.out, Hbe.out⟩
set_option maxHeartbeats 1000000 in
theorem foll_any (B : Nat) (OA NA : Option Addr) (on oc nn nc : Nat) (g : GT) (who : Int) (A : Option Addr) (n c : Nat) (l : List Int) (w : World) (hB : B ≤ w.heap.size) (hg : RG w B ⟨OA, on, oc⟩ ⟨NA, nn, nc⟩ g) (hr : RI w B ⟨A, n, c⟩ l) :
    Calls Try.prog 24 #[.agg #[.slice OA on oc, .slice NA nn nc], .int .i64 who, .slice A n c] w (GamePost w (thinG (pFoll g who l) g)) := by
  have hb3 : Below w.heap.size w ((((w.alloc (.cells #[.slice OA on oc, .slice NA nn nc] 25)).alloc (.cells #[.int .i64 who] 3)).alloc (.cells #[.slice A n c] 22)).alloc (.cells #[.slice none 0 0, .slice none 0 0] 25)) := ((((Below.refl _ _).alloc (Nat.le_refl _) _).alloc (by simp) _).alloc (by simp; omega) _).alloc (by simp; omega) _
  have e0 := heap_alloc_new w (.cells #[.slice OA on oc, .slice NA nn nc] 25)
  have e1 := heap_alloc_new (w.alloc (.cells #[.slice OA on oc, .slice NA nn nc] 25)) (.cells #[.int .i64 who] 3)
  have e2 := heap_alloc_new ((w.alloc (.cells #[.slice OA on oc, .slice NA nn nc] 25)).alloc (.cells #[.int .i64 who] 3)) (.cells #[.slice A n c] 22)
  have e3 := heap_alloc_new (((w.alloc (.cells #[.slice OA on oc, .slice NA nn nc] 25)).alloc (.cells #[.int .i64 who] 3)).alloc (.cells #[.slice A n c] 22)) (.cells #[.slice none 0 0, .slice none 0 0] 25)
  rw [size_al] at e1
  rw [size_al, size_al] at e2
  rw [size_al, size_al, size_al] at e3
  have E0 := hide ((Below.heap_alloc _ (.cells #[.slice none 0 0, .slice none 0 0] 25) w.heap.size (by rw [size_al, size_al, size_al]; omega)).trans ((Below.heap_alloc _ (.cells #[.slice A n c] 22) w.heap.size (by rw [size_al, size_al]; omega)).trans ((Below.heap_alloc _ (.cells #[.int .i64 who] 3) w.heap.size (by rw [size_al]; omega)).trans e0)))
  have E1 := hide ((Below.heap_alloc _ (.cells #[.slice none 0 0, .slice none 0 0] 25) (w.heap.size + 1) (by rw [size_al, size_al, size_al]; omega)).trans ((Below.heap_alloc _ (.cells #[.slice A n c] 22) (w.heap.size + 1) (by rw [size_al, size_al]; omega)).trans e1))
  have E2 := hide ((Below.heap_alloc _ (.cells #[.slice none 0 0, .slice none 0 0] 25) (w.heap.size + 2) (by rw [size_al, size_al, size_al]; omega)).trans e2)
  have E3 := hide e3
  have hz : ((((w.alloc (.cells #[.slice OA on oc, .slice NA nn nc] 25)).alloc (.cells #[.int .i64 who] 3)).alloc (.cells #[.slice A n c] 22)).alloc (.cells #[.slice none 0 0, .slice none 0 0] 25)).heap.size = w.heap.size + 4 := by rw [size_al, size_al, size_al, size_al]
  have Hz := hide hz
  have Hg := hide (hg.below (hb3.mono hB))
  have Hr := hide (hr.below (hb3.mono hB))
  have Hb3 := hide hb3
  have hmf : ∀ (fn : Fn) (first cap : Array Value) (w : World), (Instr.makeFunc fn first cap).run Try.prog w = .ok (.func fn first cap) w := fun _ _ _ _ => rfl
  clear hg hr hb3 e0 e1 e2 e3 hz
  go_enter Try.func24, Try.ntmps24
  go_wp2_with fail
  clear hmf
  generalize (((w.alloc (.cells #[.slice OA on oc, .slice NA nn nc] 25)).alloc (.cells #[.int .i64 who] 3)).alloc (.cells #[.slice A n c] 22)).alloc (.cells #[.slice none 0 0, .slice none 0 0] 25) = w1 at *
  refine (thin38_any B OA NA on oc nn nc g (pFoll g who l) w.heap.size (w.heap.size + 1) (w.heap.size + 2) w1 (by have := Hz.out; omega) Hg.out (fun v x X hX hv hx => inFoll_any B w.heap.size (w.heap.size + 1) (w.heap.size + 2) OA NA A on oc nn nc n c g who l v x X hv
    ((hX.cell (p := ⟨w.heap.size, 0, none⟩) (by show w.heap.size < _; have := Hz.out; omega)).trans (by simp [World.cell?, E0.out])) ((hX.cell (p := ⟨w.heap.size + 1, 0, none⟩) (by show w.heap.size + 1 < _; have := Hz.out; omega)).trans (by simp [World.cell?, E1.out])) ((hX.cell (p := ⟨w.heap.size + 2, 0, none⟩) (by show w.heap.size + 2 < _; have := Hz.out; omega)).trans (by simp [World.cell?, E2.out]))
    (Hg.out.own.below (hX.mono (by have := Hz.out; omega))) (Hr.out.below (hX.mono (by have := Hz.out; omega))))).mono ?_
  rintro e w2 ⟨⟨oA, o1, o2⟩, ⟨nA, n1, n2⟩, rfl, hnew, hb⟩
  have hsz := hb.size
  have E4 : Hid (w2.heap[w.heap.size + 3]? = some (.cells #[.slice none 0 0, .slice none 0 0] 25 (0, 0))) := hide ((hb.block _ (by have := Hz.out; omega)).trans E3.out)
  have r0 : w2.cell? ⟨w.heap.size + 3, 0, none⟩ = some (.slice none 0 0) := by simp [World.cell?, E4.out]
  have r1 : w2.cell? ⟨w.heap.size + 3, 1, none⟩ = some (.slice none 0 0) := by simp [World.cell?, E4.out]
  have z0 : w2.frozen? ⟨w.heap.size + 3, 0, none⟩ = false := by simp [World.frozen?, E4.out]
  have z1 : w2.frozen? ⟨w.heap.size + 3, 1, none⟩ = false := by simp [World.frozen?, E4.out]
  obtain ⟨s0, s1⟩ := cells2 (a0 := .slice oA o1 o2) (a1 := .slice nA n1 n2) r0 r1
  have Hs0 := hide s0
  have Hs1 := hide s1
  have hs : ((w2.setCell ⟨w.heap.size + 3, 0, none⟩ (.slice oA o1 o2)).setCell ⟨w.heap.size + 3, 1, none⟩ (.slice nA n1 n2)).heap.size = w2.heap.size := by simp [World.setCell]
  have Hnew := hide (hnew.on (lo' := w.heap.size) (by have := Hz.out; omega) (w2 := (w2.setCell ⟨w.heap.size + 3, 0, none⟩ (.slice oA o1 o2)).setCell ⟨w.heap.size + 3, 1, none⟩ (.slice nA n1 n2)) (by rw [hs]; exact Nat.le_refl _) (fun k hk _ => by have := Hz.out; rw [Below.heap_setCell _ _ _ _ (by show k ≠ w.heap.size + 3; omega), Below.heap_setCell _ _ _ _ (by show k ≠ w.heap.size + 3; omega)]))
  have Hbe := hide (((Hb3.out.trans (hb.mono (by have := Hz.out; omega))).setCell (p := ⟨w.heap.size + 3, 0, none⟩) (by show w.heap.size ≤ w.heap.size + 3; omega) (.slice oA o1 o2)).setCell (p := ⟨w.heap.size + 3, 1, none⟩) (by show w.heap.size ≤ w.heap.size + 3; omega) (.slice nA n1 n2))
  clear s0 s1 hs hnew hb
  simp only [SL.v]
  go_wp2_with fail
  have s0 := Hs0.out
  have s1 := Hs1.out
  refine bodyPost_ret (v := .agg #[.slice oA o1 o2, .slice nA n1 n2]) (by simp [results, Try.results24, go_sem, s0, s1]) rfl ?_
  exact ⟨⟨oA, o1, o2⟩, ⟨nA, n1, n2⟩, rfl, Hnew.out, Hbe.out⟩
end Go.Proofs.Ytdcdpknlloffjaa.Gr
