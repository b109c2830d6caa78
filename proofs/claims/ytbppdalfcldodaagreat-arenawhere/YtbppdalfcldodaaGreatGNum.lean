/- The walk of dom.hasValue. The walk of dom.number. The walk of dom.State. The walks of the statements' own two and awake. The walks of Heavy (of the statements) and dom.Find. -/
import Derived.Test.YtbppdalfcldodaaGreatGLeaf
import Derived.Deep.RegionHeld3
import Derived.Deep.RegionWith
import Derived.Deep.QuietTactic
import Derived.BigQuiet
import Derived.IntWalk
import Derived.KernelRfl
namespace Go.Proofs.YtbppdalfcldodaaGreat.Dom
open Go.RowKit
set_option linter.unusedSimpArgs false
set_option linter.unusedVariables false
theorem below_drewN {B : Nat} {a w : World} (h : Below B a w) (n : Nat) : Below B a (w.drewN n) := ⟨h.os, h.tape, h.output, h.size, h.block⟩
def hasB (s lo hi x : Int) : Bool := decide (lo ≤ x ∧ x < lo + sizeOfV s lo hi)

set_option maxHeartbeats 400000 in
theorem has_any (nm : ByteArray) (env : Bool) (s lo hi x : Int) (w : World) (hm : mayOfV s lo hi = 0) : Calls Tryz.prog 141 #[.agg #[.string nm, .bool env, .int .i64 s, .int .i64 lo, .int .i64 hi], .int .i64 x] w fun e w' => e = .returned (.bool (hasB s lo hi x)) ∧ Below w.heap.size w w' := by
  have sz1 := size_pos hm
  have sz2 := (size_bd s lo hi).2
  obtain ⟨lo1, lo2⟩ := may_lo hm
  clear hm
  by_cases h1 : lo ≤ x
  · have h1b : decide (lo ≤ x) = true := by simp [h1]
    have hr : hasB s lo hi x = decide (x < lo + sizeOfV s lo hi) := by simp [hasB, h1]
    rw [hr]; clear hr
    go_enter Tryz.func141, Tryz.ntmps141
    go_wp2_with fail

    go_region_held3 (fun w' => w'.cell? ⟨w.heap.size, 0, none⟩ = some (.string nm) ∧ w'.cell? ⟨w.heap.size, 1, none⟩ = some (.bool env) ∧ w'.cell? ⟨w.heap.size, 2, none⟩ = some (.int .i64 s) ∧ w'.cell? ⟨w.heap.size, 3, none⟩ = some (.int .i64 lo) ∧ w'.cell? ⟨w.heap.size, 4, none⟩ = some (.int .i64 hi)) (go_keep)
      (first | (go_at_call 98; refine (size_ex nm env s lo hi _).mono ?_; rintro e w' ⟨rfl, rfl⟩))
    rw [show IntKind.i64.wrap (lo + sizeOfV s lo hi) = lo + sizeOfV s lo hi from IntWalk.i64_in _ (by omega)]
    go_wp2_with fail
    go_ret
    exact ⟨rfl, (((Below.refl _ _).alloc (Nat.le_refl _) _).alloc (by simp) _).drew⟩
  · have h1b : decide (lo ≤ x) = false := by simp; omega
    have hr : hasB s lo hi x = false := by simp [hasB, h1]
    rw [hr]; clear hr
    go_enter Tryz.func141, Tryz.ntmps141
    go_wp2_with fail
    go_quiet (fail)
    go_wp2_with fail
    go_ret
    exact ⟨rfl, (below_drewN ((Below.refl _ _).alloc (Nat.le_refl _) _) _)⟩
end Go.Proofs.YtbppdalfcldodaaGreat.Dom
namespace Go.Proofs.YtbppdalfcldodaaGreat.Dom
open Go.RowKit Go.WideMaps Go.Maps
set_option linter.unusedSimpArgs false
set_option linter.unusedVariables false

def prodV : List V → Int
  | [] => 1
  | v :: r => v.size * prodV r
def numL : List V → List Int → Int
  | v :: r, x :: xs => (x - v.lo) + v.size * numL r xs
  | _, _ => 0
def hasAll : List V → List Int → Bool
  | v :: r, x :: xs => hasB v.srt v.lo v.hi x && hasAll r xs
  | _, _ => true
theorem totGo_prod : ∀ (l : List V) (t : Int), totGo t l ≠ 0 → totGo t l = t * prodV l
  | [], t, _ => by simp [totGo, prodV]
  | v :: r, t, h => by
    rw [totGo] at h ⊢
    split at h
    · exact absurd rfl h
    · rename_i h1
      rw [if_neg h1]
      split at h
      · exact absurd rfl h
      · rename_i h2
        rw [if_neg h2, totGo_prod r _ h, prodV, Int.mul_assoc]
theorem totL_prod {l : List V} (h : totL l ≠ 0) : totL l = prodV l := by
  unfold totL at h ⊢
  split at h
  · exact absurd rfl h
  · rename_i h1
    rw [if_neg h1, totGo_prod l 1 h]; simp
theorem prodV_pos : ∀ (l : List V), (∀ v ∈ l, v.may = 0) → 1 ≤ prodV l
  | [], _ => by simp [prodV]
  | v :: r, h => by
    have h1 : 1 ≤ v.size := size_pos (h v (by simp))
    have h2 := prodV_pos r (fun u hu => h u (by simp [hu]))
    rw [prodV]
    have := Int.mul_le_mul h1 h2 (by omega) (by omega); omega
theorem hasAll_at : ∀ (l : List V) (xs : List Int) (k : Nat) (v : V) (x : Int), hasAll l xs = true → l[k]? = some v → xs[k]? = some x → hasB v.srt v.lo v.hi x = true
  | [], _, k, v, x, _, h, _ => by simp at h
  | _ :: _, [], k, v, x, _, _, h => by simp at h
  | u :: r, y :: ys, 0, v, x, ha, h1, h2 => by
    simp at h1 h2; subst h1; subst h2
    rw [hasAll, Bool.and_eq_true] at ha; exact ha.1
  | u :: r, y :: ys, k + 1, v, x, ha, h1, h2 => by
    rw [hasAll, Bool.and_eq_true] at ha
    exact hasAll_at r ys k v x ha.2 (by simpa using h1) (by simpa using h2)
theorem hasAll_of : ∀ (l : List V) (xs : List Int), (∀ (k : Nat) (v : V) (x : Int), l[k]? = some v → xs[k]? = some x → hasB v.srt v.lo v.hi x = true) → hasAll l xs = true
  | [], _, _ => by simp [hasAll]
  | _ :: _, [], _ => by simp [hasAll]
  | u :: r, y :: ys, h => by
    rw [hasAll, Bool.and_eq_true]
    exact ⟨h 0 u y (by simp) (by simp), hasAll_of r ys (fun k v x h1 h2 => h (k + 1) v x (by simpa using h1) (by simpa using h2))⟩
theorem has_bd {s lo hi x : Int} (h : hasB s lo hi x = true) : lo ≤ x ∧ x < lo + sizeOfV s lo hi := by simpa [hasB] using h

/- one round of number, in numbers -/
theorem num_step {l : List V} {xs : List Int} {k : Nat} {v : V} {x st wt N Pr : Int} (hl : l[k]? = some v) (hx : xs[k]? = some x)
    (h1 : st + wt * numL (l.drop k) (xs.drop k) = N) (h2 : wt * prodV (l.drop k) = Pr) :
    (st + (x - v.lo) * wt) + (wt * v.size) * numL (l.drop (k + 1)) (xs.drop (k + 1)) = N ∧ (wt * v.size) * prodV (l.drop (k + 1)) = Pr := by
  rw [drop_at hl, drop_at hx, numL] at h1
  rw [drop_at hl, prodV] at h2
  constructor
  · rw [← h1]
    generalize numL (l.drop (k + 1)) (xs.drop (k + 1)) = N
    rw [Int.mul_add, Int.mul_assoc, Int.mul_comm (x - v.lo) wt]; omega
  · rw [Int.mul_assoc]; exact h2
theorem num_end {l : List V} {xs : List Int} {k : Nat} {st wt N : Int} (h : l.length ≤ k) (h1 : st + wt * numL (l.drop k) (xs.drop k) = N) : st = N := by
  rw [List.drop_of_length_le h, numL] at h1; simpa using h1
  · simp
theorem wt_bd {l : List V} (k : Nat) {wt Pr : Int} (hall : ∀ v ∈ l, v.may = 0) (h0 : 1 ≤ wt) (h : wt * prodV (l.drop k) = Pr) (hP : Pr ≤ 512) : wt ≤ 512 := by
  have h1 := prodV_pos (l.drop k) (fun v hv => hall v (List.mem_of_mem_drop hv))
  have := Int.mul_le_mul (Int.le_refl wt) h1 (by omega) (by omega); omega

theorem wrap64_mid (n : Int) (h1 : -100000000 ≤ n) (h2 : n ≤ 100000000) : wrap64 n = n := by unfold wrap64; omega
theorem num_bd {st wt x lo z : Int} (hs0 : 0 ≤ st) (hs1 : st < wt) (hw1 : 1 ≤ wt) (hw2 : wt ≤ 512) (x1 : lo ≤ x) (x2 : x < lo + z) (hz : z ≤ 2001) :
    0 ≤ (x - lo) * wt ∧ (x - lo) * wt ≤ 2001 * 512 ∧ st + (x - lo) * wt < wt * z := by
  refine ⟨Int.mul_nonneg (by omega) (by omega), Int.mul_le_mul (by omega) hw2 (by omega) (by omega), ?_⟩
  have h : (x - lo) * wt ≤ (z - 1) * wt := Int.mul_le_mul_of_nonneg_right (by omega) (by omega)
  have e : (z - 1) * wt = wt * z - wt := by rw [Int.sub_mul, Int.mul_comm z wt, Int.one_mul]
  rw [e] at h
  omega

set_option maxHeartbeats 1000000 in
theorem num_any (A : Option Addr) (n c B : Nat) (l : List V) (Ai : Option Addr) (ci : Nat) (xs : List Int) (w : World) (hB : B ≤ w.heap.size) (hv : RV w B A n l) (hi : RI w B Ai n xs) (hall : ∀ v ∈ l, v.may = 0) (ht : totL l ≠ 0) (hh : hasAll l xs = true) :
    Calls Tryz.prog 92 #[.slice A n c, .slice Ai n ci] w fun e w' => e = .returned (.int .i64 (numL l xs)) ∧ Below w.heap.size w w' := by
  have hn6 : n ≤ 6 := by have := totL_len ht; rw [hv.1] at this; exact this
  have Hn := hide hv.1
  have Hv := hide hv; clear hv
  have Hi := hide hi; clear hi
  have Hall := hide hall; clear hall
  have Hh := hide hh; clear hh
  have hP : prodV l ≤ 512 := by rw [← totL_prod ht]; exact (totL_bd l).2
  clear ht
  go_enter Tryz.func92, Tryz.ntmps92
  go_wp2_with fail
  go_loopw [5, 6, 11] (fun a b i wr => ∃ (k : Nat) (st wt : Int), k ≤ n ∧ i = .int .i64 k ∧ a = .int .i64 st ∧ b = .int .i64 wt ∧ 0 ≤ st ∧ st < wt ∧ 1 ≤ wt ∧ Hid (st + wt * numL (l.drop k) (xs.drop k) = numL l xs) ∧ Hid (wt * prodV (l.drop k) = prodV l) ∧ Below w.heap.size w wr) (fun _ _ i _ => n - (intOf i).toNat)
  case atStart => exact ⟨0, 0, 1, Nat.zero_le _, rfl, rfl, rfl, by omega, by omega, by omega, hide (by simp), hide (by simp), Below.refl _ _⟩
  case round =>
    obtain ⟨k, st, wt, hk, rfl, rfl, rfl, hs0, hs1, hw1, HN, HP, hb⟩ := hrel
    have hw2 := wt_bd k Hall.out hw1 HP.out hP
    by_cases hlt : k < n
    · have hlt' : ((k : Int) < (n : Int)) := by omega
      obtain ⟨b, off, v, rfl, hbB, hlk, c0, c1, c2, c3, c4⟩ := (Hv.out.below (hb.mono hB)).at_ hlt
      obtain ⟨bi, offi, x, rfl, hbi, hlx, cx⟩ := (Hi.out.below (hb.mono hB)).at_ hlt
      have hmay := Hall.out v (List.mem_of_getElem? hlk)
      have sz1 := size_pos hmay
      have sz2 := (size_bd v.srt v.lo v.hi).2
      obtain ⟨lo1, lo2⟩ := may_lo hmay
      obtain ⟨x1, x2⟩ := has_bd (hasAll_at l xs k v x Hh.out hlk hlx)
      have Hst := hide (num_step hlk hlx HN.out HP.out)
      clear hlk hlx hmay
      have hsz := hb.size
      have cx' : (wr.alloc (.cells #[.string v.nm, .bool v.env, .int .i64 v.srt, .int .i64 v.lo, .int .i64 v.hi] 103)).cell? ⟨bi, offi + k, none⟩ = some (.int .i64 x) := (World.cell?_alloc_lt wr _ _ (by show bi < _; omega)).trans cx
      clear cx
      go_wp2_with fail
      clear c0 c1 c2 c3 c4
      generalize hz : sizeOfV v.srt v.lo v.hi = z at *
      have Hz : Hid (v.size = z) := hide hz
      clear hz
      go_region
      obtain ⟨p1, p2, p3⟩ := num_bd hs0 hs1 hw1 hw2 x1 x2 sz2
      rw [show wrap64 ((x - v.lo) * wt) = (x - v.lo) * wt from wrap64_mid _ (by omega) (by omega)]
      rw [show wrap64 (st + (x - v.lo) * wt) = st + (x - v.lo) * wt from wrap64_mid _ (by omega) (by omega)]
      have q1 : 1 ≤ wt * z := by have := Int.mul_le_mul hw1 sz1 (by omega) (by omega); omega
      have q2 : wt * z ≤ 512 * 2001 := Int.mul_le_mul hw2 sz2 (by omega) (by omega)
      have Hst2 : Hid ((st + (x - v.lo) * wt) + (wt * z) * numL (l.drop (k + 1)) (xs.drop (k + 1)) = numL l xs ∧ (wt * z) * prodV (l.drop (k + 1)) = prodV l) := hide (by have := Hst.out; rw [Hz.out] at this; exact this)
      clear Hst HN HP cx'
      have p0 : 0 ≤ st + (x - v.lo) * wt := by omega
      generalize hst' : st + (x - v.lo) * wt = st' at *
      have Hst' := hide hst'; clear hst'
      go_wp2_with fail
      refine (size_any v.nm v.env v.srt v.lo v.hi _).mono ?_
      rintro e w4 ⟨rfl, hb4⟩
      have hbw4 := below_box (w1 := w4) (o := .cells #[.string v.nm, .bool v.env, .int .i64 v.srt, .int .i64 v.lo, .int .i64 v.hi] 103) hb (Nat.le_refl _) ⟨hb4.os, hb4.tape, hb4.output, hb4.size, hb4.block⟩
      clear hb4
      rw [show sizeOfV v.srt v.lo v.hi = z from Hz.out]
      go_wp2_with fail
      go_roundw
      case rel => exact ⟨k + 1, st', wt * z, by omega, by go_num, rfl, rfl, by omega, by omega, by omega, hide Hst2.out.1, hide Hst2.out.2, hbw4⟩
      case measure => simp [intOf]; omega
    · have hlt' : ¬ ((k : Int) < (n : Int)) := by omega
      have Hfin := hide (num_end (by rw [Hn.out]; omega) HN.out)
      clear HN HP
      go_wp2_with fail
      go_ret
      exact ⟨ret_int Hfin.out, hb⟩
end Go.Proofs.YtbppdalfcldodaaGreat.Dom
namespace Go.Proofs.YtbppdalfcldodaaGreat.Dom
open Go.RowKit Go.WideMaps Go.Maps
set_option linter.unusedSimpArgs false
set_option linter.unusedVariables false

def stateOk (l : List V) (xs : List Int) : Bool := decide (mayL l = 0 ∧ xs.length = l.length) && hasAll l xs
def stateV (l : List V) (xs : List Int) : Int := if stateOk l xs = true then numL l xs else 0

end Go.Proofs.YtbppdalfcldodaaGreat.Dom
namespace Go.Proofs.YtbppdalfcldodaaGreat.Dom
open Go.RowKit Go.WideMaps Go.Maps
set_option linter.unusedSimpArgs false
set_option linter.unusedVariables false

def twoL : List V := [⟨⟨#[120]⟩, true, 1, 0, 0⟩, ⟨⟨#[121]⟩, false, 2, 1, 3⟩]
def twoCells : Array Value := #[.string ⟨#[120]⟩, .bool true, .int .i64 1, .int .i64 0, .int .i64 0, .string ⟨#[121]⟩, .bool false, .int .i64 2, .int .i64 1, .int .i64 3]
def TwoPost (w : World) (e : Ending) (w' : World) : Prop := e = .returned (.slice (some ⟨w.heap.size, 0, none⟩) 2 2) ∧ w' = w.alloc (.cells twoCells 103)
theorem row_ri {w : World} {g n : Nat} {xs : List Int} (h : w.rowIs g 3 n (fun i => .int .i64 (xs.getD i 0))) (hl : xs.length = n) : RI w w.heap.size (some ⟨g, 0, none⟩) n xs :=
  ⟨hl, fun _ => ⟨g, 0, rfl, h.lt, fun k x hx => by
    obtain ⟨hk, rfl⟩ := List.getElem?_eq_some_iff.1 hx
    rw [Nat.zero_add, h.cell (by omega)]; simp [List.getD, hk]⟩⟩

end Go.Proofs.YtbppdalfcldodaaGreat.Dom
namespace Go.Proofs.YtbppdalfcldodaaGreat.Dom
open Go.RowKit Go.WideMaps Go.Maps
set_option linter.unusedSimpArgs false
set_option linter.unusedVariables false

def heavyGo (i : Nat) : List V → Int
  | [] => 0
  | v :: r => if 10 ≤ i ∨ 100 < v.nm.size then (i : Int) + 1 else heavyGo (i + 1) r
theorem heavy_nonneg : ∀ (l : List V) (i : Nat), 0 ≤ heavyGo i l
  | [], _ => by simp [heavyGo]
  | v :: r, i => by
    rw [heavyGo]; split
    · omega
    · exact heavy_nonneg r _
set_option maxHeartbeats 400000 in
theorem heavy_any (A : Option Addr) (n c B : Nat) (l : List V) (w : World) (hm : n ≤ maxLen) (hB : B ≤ w.heap.size) (hv : RV w B A n l) (hnm : ∀ v ∈ l, v.nm.size ≤ maxLen) : Calls Tryz.prog 70 #[.slice A n c] w fun e w' => e = .returned (.int .i64 (heavyGo 0 l)) ∧ Below w.heap.size w w' := by
  have Hn := hide hv.1
  unfold maxLen at hm
  have Hv := hide hv; clear hv
  have Hnm := hide hnm; clear hnm
  go_enter Tryz.func70, Tryz.ntmps70
  go_wp2_with fail
  go_loopw [7] (fun i wr => ∃ (k : Nat), k ≤ n ∧ i = .int .i64 k ∧ Hid (heavyGo k (l.drop k) = heavyGo 0 l) ∧ Below w.heap.size w wr) (fun i _ => n - (intOf i).toNat)
  case atStart => exact ⟨0, Nat.zero_le _, rfl, hide rfl, Below.refl _ _⟩
  case round =>
    obtain ⟨k, hk, rfl, HT, hb⟩ := hrel
    by_cases hlt : k < n
    · have hlt' : ((k : Int) < (n : Int)) := by omega
      obtain ⟨b, off, v, rfl, hbB, hlk, c0, c1, c2, c3, c4⟩ := (Hv.out.below (hb.mono hB)).at_ hlt
      have hvl : v.nm.size ≤ 2 ^ 63 - 1 := Hnm.out v (List.mem_of_getElem? hlk)
      have Hst : Hid ((if 10 ≤ k ∨ 100 < v.nm.size then (k : Int) + 1 else heavyGo (k + 1) (l.drop (k + 1))) = heavyGo 0 l) := hide (by rw [← HT.out, drop_at hlk, heavyGo])
      clear hlk
      have hsz := hb.size
      by_cases h10 : 10 ≤ k
      · have h10b : decide ((10 : Int) ≤ (k : Int)) = true := by simp; omega
        have Hfin : Hid (heavyGo 0 l = (k : Int) + 1) := hide (by rw [← Hst.out, if_pos (.inl h10)])
        go_wp2_with fail
        go_ret
        exact ⟨ret_int Hfin.out.symm, hb.alloc hsz _⟩
      · have h10b : decide ((10 : Int) ≤ (k : Int)) = false := by simp; omega
        by_cases h100 : 100 < v.nm.size
        · have h100b : decide ((100 : Int) < (v.nm.size : Int)) = true := by simp; omega
          have Hfin : Hid (heavyGo 0 l = (k : Int) + 1) := hide (by rw [← Hst.out, if_pos (.inr h100)])
          go_wp2_with fail
          go_ret
          exact ⟨ret_int Hfin.out.symm, hb.alloc hsz _⟩
        · have h100b : decide ((100 : Int) < (v.nm.size : Int)) = false := by simp; omega
          have Hon : Hid (heavyGo (k + 1) (l.drop (k + 1)) = heavyGo 0 l) := hide (by rw [← Hst.out, if_neg (by omega)])
          go_wp2_with fail
          go_roundw
          case rel => exact ⟨k + 1, by omega, by go_num, Hon, hb.alloc hsz _⟩
          case measure => simp [intOf]; omega
    · have hlt' : ¬ ((k : Int) < (n : Int)) := by omega
      have Hfin : Hid (heavyGo 0 l = 0) := hide (by rw [← HT.out, List.drop_of_length_le (by rw [Hn.out]; omega), heavyGo])
      go_wp2_with fail
      go_ret
      exact ⟨ret_int Hfin.out.symm, hb⟩

def findGo (nm : List UInt8) (i : Nat) : List V → Int
  | [] => -1
  | v :: r => if v.nm.toList == nm then (i : Int) else findGo nm (i + 1) r

end Go.Proofs.YtbppdalfcldodaaGreat.Dom
