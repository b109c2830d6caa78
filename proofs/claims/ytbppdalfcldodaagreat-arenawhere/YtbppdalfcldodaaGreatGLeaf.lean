/- The plain mathematics of package dom's functions: no program is named here. How a slice of variables, and one of integers, lies in memory; the sums that package dom makes of them. The walks of package dom's functions of one variable. The walks of package dom's functions of one variable: Size, mayValues. The walk of dom.Total. The walks of dom.isReserved and dom.isName. The walk of dom.May. The walk of dom.Values. -/
import GoSem.Claim
import Derived.WalkKit
import Derived.Test.YtbppdalfcldodaaGreatProg
import Derived.WalkSpells
import Derived.WalkLawsBesides
import Derived.Maps.OwnSet
import Derived.Deep.OwnRows
import Derived.RegionTactic
import Derived.BigRegion
namespace Go.Proofs.YtbppdalfcldodaaGreat.Dom

structure V where
  nm : ByteArray
  env : Bool
  srt : Int
  lo : Int
  hi : Int

def rangeB (lo hi : Int) : Bool := decide (-1000 ≤ lo ∧ lo ≤ hi ∧ hi ≤ 1000)
def sizeOfV (srt lo hi : Int) : Int := if srt = 1 then 2 else if srt = 2 ∧ rangeB lo hi = true then hi - lo + 1 else 0
def mayOfV (srt lo hi : Int) : Int := if srt = 1 then (if lo = 0 ∧ hi = 0 then 0 else 6) else if srt = 2 then (if rangeB lo hi = true then 0 else 6) else 4
def V.size (v : V) : Int := sizeOfV v.srt v.lo v.hi
def V.may (v : V) : Int := mayOfV v.srt v.lo v.hi
theorem range_true {lo hi : Int} (h : rangeB lo hi = true) : -1000 ≤ lo ∧ lo ≤ hi ∧ hi ≤ 1000 := by simpa [rangeB] using h
theorem range_false {lo hi : Int} (h : rangeB lo hi = false) : ¬ (-1000 ≤ lo ∧ lo ≤ hi ∧ hi ≤ 1000) := by simpa [rangeB] using h
theorem size_bd (s lo hi : Int) : 0 ≤ sizeOfV s lo hi ∧ sizeOfV s lo hi ≤ 2001 := by
  unfold sizeOfV
  split
  · omega
  · split
    · rename_i h; have := range_true h.2; omega
    · omega
theorem size_pos {s lo hi : Int} (h : mayOfV s lo hi = 0) : 1 ≤ sizeOfV s lo hi := by
  unfold mayOfV at h; unfold sizeOfV
  split at h
  · rename_i h1; rw [if_pos h1]; omega
  · rename_i h1; rw [if_neg h1]
    split at h
    · rename_i h2
      split at h
      · rename_i h3; rw [if_pos ⟨h2, h3⟩]; have := range_true h3; omega
      · omega
    · omega
theorem may_lo {s lo hi : Int} (h : mayOfV s lo hi = 0) : -1000 ≤ lo ∧ lo ≤ 1000 := by
  unfold mayOfV at h
  split at h
  · split at h
    · omega
    · omega
  · split at h
    · split at h
      · rename_i h3; have := range_true h3; omega
      · omega
    · omega
end Go.Proofs.YtbppdalfcldodaaGreat.Dom
namespace Go.Proofs.YtbppdalfcldodaaGreat.Dom
open Go.RowKit

theorem hide {p : Prop} (h : p) : Hid p := h
theorem ret_bool {a b : Bool} (h : a = b) : Ending.returned (.bool a) = .returned (.bool b) := by rw [h]
theorem ret_int {k : IntKind} {a b : Int} (h : a = b) : Ending.returned (.int k a) = .returned (.int k b) := by rw [h]
def CellV (w : World) (b o : Nat) (v : V) : Prop := w.cell? ⟨b, o, none⟩ = some (.string v.nm) ∧ w.cell? ⟨b, o + 1, none⟩ = some (.bool v.env) ∧ w.cell? ⟨b, o + 2, none⟩ = some (.int .i64 v.srt) ∧
  w.cell? ⟨b, o + 3, none⟩ = some (.int .i64 v.lo) ∧ w.cell? ⟨b, o + 4, none⟩ = some (.int .i64 v.hi)
def RV (w : World) (B : Nat) (A : Option Addr) (n : Nat) (l : List V) : Prop :=
  l.length = n ∧ (0 < n → ∃ b off, A = some ⟨b, off, none⟩ ∧ b < B ∧ ∀ k v, l[k]? = some v → CellV w b (off + k * 5) v)
def RI (w : World) (B : Nat) (A : Option Addr) (n : Nat) (l : List Int) : Prop :=
  l.length = n ∧ (0 < n → ∃ b off, A = some ⟨b, off, none⟩ ∧ b < B ∧ ∀ k x, l[k]? = some x → w.cell? ⟨b, off + k, none⟩ = some (.int .i64 x))

section
variable {w w' : World} {B B' n : Nat} {A : Option Addr} {l : List V} {xs : List Int}
theorem CellV.keep {b o : Nat} {v : V} (h : CellV w b o v) (hk : ∀ p : Addr, p.block = b → w'.cell? p = w.cell? p) : CellV w' b o v :=
  ⟨(hk _ rfl).trans h.1, (hk _ rfl).trans h.2.1, (hk _ rfl).trans h.2.2.1, (hk _ rfl).trans h.2.2.2.1, (hk _ rfl).trans h.2.2.2.2⟩
theorem RV.keep (h : RV w B A n l) (hk : ∀ p : Addr, p.block < B → w'.cell? p = w.cell? p) : RV w' B A n l :=
  ⟨h.1, fun hn => by
    obtain ⟨b, off, e, hb, hc⟩ := h.2 hn
    exact ⟨b, off, e, hb, fun k v hv => (hc k v hv).keep fun p hp => hk p (by omega)⟩⟩
theorem RV.below (h : RV w B A n l) (hb : Below B w w') : RV w' B A n l := h.keep fun _ hp => hb.cell hp
theorem RV.more (h : RV w B A n l) (hB : B ≤ B') : RV w B' A n l :=
  ⟨h.1, fun hn => by
    obtain ⟨b, off, e, hb, hc⟩ := h.2 hn
    exact ⟨b, off, e, by omega, hc⟩⟩
theorem RV.at_ {k : Nat} (h : RV w B A n l) (hk : k < n) : ∃ b off v, A = some ⟨b, off, none⟩ ∧ b < B ∧ l[k]? = some v ∧ CellV w b (off + k * 5) v := by
  obtain ⟨b, off, e, hb, hc⟩ := h.2 (by omega)
  have hl : k < l.length := by have := h.1; omega
  exact ⟨b, off, l[k], e, hb, List.getElem?_eq_getElem hl, hc k _ (List.getElem?_eq_getElem hl)⟩
theorem RI.keep (h : RI w B A n xs) (hk : ∀ p : Addr, p.block < B → w'.cell? p = w.cell? p) : RI w' B A n xs :=
  ⟨h.1, fun hn => by
    obtain ⟨b, off, e, hb, hc⟩ := h.2 hn
    exact ⟨b, off, e, hb, fun k v hv => (hk _ (by exact hb)).trans (hc k v hv)⟩⟩
theorem RI.below (h : RI w B A n xs) (hb : Below B w w') : RI w' B A n xs := h.keep fun _ hp => hb.cell hp
theorem RI.more (h : RI w B A n xs) (hB : B ≤ B') : RI w B' A n xs :=
  ⟨h.1, fun hn => by
    obtain ⟨b, off, e, hb, hc⟩ := h.2 hn
    exact ⟨b, off, e, by omega, hc⟩⟩
theorem RI.at_ {k : Nat} (h : RI w B A n xs) (hk : k < n) : ∃ b off x, A = some ⟨b, off, none⟩ ∧ b < B ∧ xs[k]? = some x ∧ w.cell? ⟨b, off + k, none⟩ = some (.int .i64 x) := by
  obtain ⟨b, off, e, hb, hc⟩ := h.2 (by omega)
  have hl : k < xs.length := by have := h.1; omega
  exact ⟨b, off, xs[k], e, hb, List.getElem?_eq_getElem hl, hc k _ (List.getElem?_eq_getElem hl)⟩
end

def Box5 (w : World) (b : Nat) (v : V) : Prop := w.cell? ⟨b, 0, none⟩ = some (.string v.nm) ∧ w.cell? ⟨b, 1, none⟩ = some (.bool v.env) ∧ w.cell? ⟨b, 2, none⟩ = some (.int .i64 v.srt) ∧
  w.cell? ⟨b, 3, none⟩ = some (.int .i64 v.lo) ∧ w.cell? ⟨b, 4, none⟩ = some (.int .i64 v.hi)
theorem box_new (w : World) (v : V) (t : TypeId) : Box5 (w.alloc (.cells #[.string v.nm, .bool v.env, .int .i64 v.srt, .int .i64 v.lo, .int .i64 v.hi] t)) w.heap.size v := by
  unfold Box5
  simp [go_sem]
theorem Box5.below {w w' : World} {B b : Nat} {v : V} (h : Box5 w b v) (hb : Below B w w') (hB : b < B) : Box5 w' b v :=
  ⟨(hb.cell (by exact hB)).trans h.1, (hb.cell (by exact hB)).trans h.2.1, (hb.cell (by exact hB)).trans h.2.2.1, (hb.cell (by exact hB)).trans h.2.2.2.1, (hb.cell (by exact hB)).trans h.2.2.2.2⟩
theorem below_box {w wr w1 : World} {o : Obj} {B : Nat} (h : Below B w wr) (hB : B ≤ w.heap.size) (h1 : Below (wr.alloc o).heap.size (wr.alloc o) w1) : Below B w w1 :=
  (h.alloc (Nat.le_trans hB h.size) o).trans (h1.mono (by have := h.size; simp; omega))

theorem drop_at {α : Type} {l : List α} {k : Nat} {v : α} (h : l[k]? = some v) : l.drop k = v :: l.drop (k + 1) := by
  obtain ⟨hk, rfl⟩ := List.getElem?_eq_some_iff.1 h
  exact List.drop_eq_getElem_cons hk

/- Total: the product, left as soon as it is too great or a variable may not be. -/
def totGo (t : Int) : List V → Int
  | [] => t
  | v :: r => if v.may ≠ 0 then 0 else if 512 < t * v.size then 0 else totGo (t * v.size) r
def totL (l : List V) : Int := if 6 < l.length then 0 else totGo 1 l

end Go.Proofs.YtbppdalfcldodaaGreat.Dom
namespace Go.Proofs.YtbppdalfcldodaaGreat.Dom
open Go.RowKit
set_option linter.unusedSimpArgs false

def letterB (c : Int) : Bool := decide (97 ≤ c ∧ c ≤ 122)
def digitB (c : Int) : Bool := decide (48 ≤ c ∧ c ≤ 57)

set_option maxHeartbeats 400000 in
theorem letter_any (c : Int) (w : World) (b : Bool) (hb : letterB c = b) : Calls Tryz.prog 121 #[.int .u8 c] w fun e w' => e = .returned (.bool b) ∧ w = w' := by
  subst hb
  by_cases h1 : 97 ≤ c <;> by_cases h2 : c ≤ 122
  all_goals
    have hr : letterB c = decide (97 ≤ c ∧ c ≤ 122) := rfl
    simp only [h1, h2, and_true, true_and, and_false, false_and, decide_true, decide_false] at hr
    rw [hr]
    clear hr
    go_enter Tryz.func121, Tryz.ntmps121
    go_wp2
    go_ret
    exact ⟨rfl, rfl⟩

set_option maxHeartbeats 400000 in
theorem digit_any (c : Int) (w : World) (b : Bool) (hb : digitB c = b) : Calls Tryz.prog 122 #[.int .u8 c] w fun e w' => e = .returned (.bool b) ∧ w = w' := by
  subst hb
  by_cases h1 : 48 ≤ c <;> by_cases h2 : c ≤ 57
  all_goals
    have hr : digitB c = decide (48 ≤ c ∧ c ≤ 57) := rfl
    simp only [h1, h2, and_true, true_and, and_false, false_and, decide_true, decide_false] at hr
    rw [hr]
    clear hr
    go_enter Tryz.func122, Tryz.ntmps122
    go_wp2
    go_ret
    exact ⟨rfl, rfl⟩

set_option maxHeartbeats 400000 in
theorem range_any (lo hi : Int) (w : World) (b : Bool) (hb : rangeB lo hi = b) : Calls Tryz.prog 118 #[.int .i64 lo, .int .i64 hi] w fun e w' => e = .returned (.bool b) ∧ w = w' := by
  subst hb
  by_cases h1 : -1000 ≤ lo <;> by_cases h2 : lo ≤ hi <;> by_cases h3 : hi ≤ 1000
  all_goals
    have hr : rangeB lo hi = decide (-1000 ≤ lo ∧ lo ≤ hi ∧ hi ≤ 1000) := rfl
    simp only [h1, h2, h3, and_true, true_and, and_false, false_and, decide_true, decide_false] at hr
    rw [hr]
    clear hr
    go_enter Tryz.func118, Tryz.ntmps118
    go_wp2
    go_ret
    exact ⟨rfl, rfl⟩

end Go.Proofs.YtbppdalfcldodaaGreat.Dom
namespace Go.Proofs.YtbppdalfcldodaaGreat.Dom
open Go.RowKit
set_option linter.unusedSimpArgs false
set_option linter.unusedVariables false


set_option maxHeartbeats 400000 in
theorem size_ex (nm : ByteArray) (env : Bool) (s lo hi : Int) (w : World) : Calls Tryz.prog 98 #[.agg #[.string nm, .bool env, .int .i64 s, .int .i64 lo, .int .i64 hi]] w fun e w' => e = .returned (.int .i64 (sizeOfV s lo hi)) ∧ w.alloc (.cells #[.string nm, .bool env, .int .i64 s, .int .i64 lo, .int .i64 hi] 103) = w' := by
  by_cases h1 : s = 1
  · have hv : sizeOfV s lo hi = 2 := by simp [sizeOfV, h1]
    rw [hv]; clear hv
    have hb : (s == 1) = true := by simp [h1]
    clear h1
    go_enter Tryz.func98, Tryz.ntmps98
    go_wp2
    go_ret
    exact ⟨rfl, rfl⟩
  · have hb : (s == 1) = false := by simp [h1]
    by_cases h2 : s = 2
    · have hb2 : (s == 2) = true := by simp [h2]
      cases hr : rangeB lo hi
      · have hv : sizeOfV s lo hi = 0 := by simp [sizeOfV, h1, hr]
        rw [hv]; clear hv h1 h2
        have Hr := hide hr; clear hr
        go_enter Tryz.func98, Tryz.ntmps98
        go_wp2_with (go_at_call 118; refine (range_any _ _ _ _ Hr.out).mono ?_; rintro e w' ⟨rfl, rfl⟩)
        go_ret
        exact ⟨rfl, rfl⟩
      · have hv : sizeOfV s lo hi = hi - lo + 1 := by simp [sizeOfV, h1, h2, hr]
        rw [hv]; clear hv h1 h2
        obtain ⟨b1, b2, b3⟩ := range_true hr
        have Hr := hide hr; clear hr
        go_enter Tryz.func98, Tryz.ntmps98
        go_wp2_with (go_at_call 118; refine (range_any _ _ _ _ Hr.out).mono ?_; rintro e w' ⟨rfl, rfl⟩)
        go_ret
        exact ⟨rfl, rfl⟩
    · have hb2 : (s == 2) = false := by simp [h2]
      have hv : sizeOfV s lo hi = 0 := by simp [sizeOfV, h1, h2]
      rw [hv]; clear hv h1 h2
      go_enter Tryz.func98, Tryz.ntmps98
      go_wp2_with fail
      go_ret
      exact ⟨rfl, rfl⟩

theorem size_any (nm : ByteArray) (env : Bool) (s lo hi : Int) (w : World) : Calls Tryz.prog 98 #[.agg #[.string nm, .bool env, .int .i64 s, .int .i64 lo, .int .i64 hi]] w fun e w' => e = .returned (.int .i64 (sizeOfV s lo hi)) ∧ Below w.heap.size w w' :=
  (size_ex nm env s lo hi w).mono fun e w' ⟨he, hw⟩ => ⟨he, by rw [← hw]; exact (Below.refl _ _).alloc (Nat.le_refl _) _⟩

set_option maxHeartbeats 400000 in
theorem mayv_any (nm : ByteArray) (env : Bool) (s lo hi : Int) (w : World) : Calls Tryz.prog 102 #[.agg #[.string nm, .bool env, .int .i64 s, .int .i64 lo, .int .i64 hi]] w fun e w' => e = .returned (.int .i64 (mayOfV s lo hi)) ∧ Below w.heap.size w w' := by
  by_cases h1 : s = 1
  · have hb : (s == 1) = true := by simp [h1]
    by_cases h2 : lo = 0 <;> by_cases h3 : hi = 0
    all_goals
      have hv : mayOfV s lo hi = if lo = 0 ∧ hi = 0 then 0 else 6 := by simp [mayOfV, h1]
      simp only [h2, h3, and_true, true_and, and_false, false_and, if_true, if_false] at hv
      first | rw [hv] | (subst h2; subst h3; rw [hv]) | (subst h2; rw [hv]) | (subst h3; rw [hv])
      clear hv h1
      go_enter Tryz.func102, Tryz.ntmps102
      go_wp2
      go_ret
      exact ⟨rfl, (Below.refl _ _).alloc (Nat.le_refl _) _⟩
  · have hb : (s == 1) = false := by simp [h1]
    by_cases h2 : s = 2
    · have hb2 : (s == 2) = true := by simp [h2]
      cases hr : rangeB lo hi
      all_goals
        have hv : mayOfV s lo hi = if rangeB lo hi = true then 0 else 6 := by simp [mayOfV, h1, h2]
        rw [hr] at hv
        simp only [Bool.false_eq_true, if_true, if_false] at hv
        rw [hv]; clear hv h1 h2
        have Hr := hide hr; clear hr
        go_enter Tryz.func102, Tryz.ntmps102
        go_wp2_with (go_at_call 118; refine (range_any _ _ _ _ Hr.out).mono ?_; rintro e w' ⟨rfl, rfl⟩)
        go_ret
        exact ⟨rfl, (Below.refl _ _).alloc (Nat.le_refl _) _⟩
    · have hb2 : (s == 2) = false := by simp [h2]
      have hv : mayOfV s lo hi = 4 := by simp [mayOfV, h1, h2]
      rw [hv]; clear hv h1 h2
      go_enter Tryz.func102, Tryz.ntmps102
      go_wp2_with fail
      go_ret
      exact ⟨rfl, (Below.refl _ _).alloc (Nat.le_refl _) _⟩

end Go.Proofs.YtbppdalfcldodaaGreat.Dom
namespace Go.Proofs.YtbppdalfcldodaaGreat.Dom
open Go.RowKit
set_option linter.unusedSimpArgs false
set_option linter.unusedVariables false

theorem totGo_bad {p : Int} {v : V} {l : List V} {k : Nat} (h : l[k]? = some v) (hm : ¬ v.may = 0) : totGo p (l.drop k) = 0 := by
  rw [drop_at h, totGo, if_pos hm]
theorem totGo_over {p : Int} {v : V} {l : List V} {k : Nat} (h : l[k]? = some v) (hm : v.may = 0) (ho : 512 < p * v.size) : totGo p (l.drop k) = 0 := by
  rw [drop_at h, totGo, if_neg (by simp [hm]), if_pos ho]
theorem totGo_on {p : Int} {v : V} {l : List V} {k : Nat} (h : l[k]? = some v) (hm : v.may = 0) (ho : ¬ 512 < p * v.size) : totGo p (l.drop k) = totGo (p * v.size) (l.drop (k + 1)) := by
  rw [drop_at h, totGo, if_neg (by simp [hm]), if_neg ho]
theorem totGo_end {p : Int} {l : List V} {k : Nat} (h : l.length ≤ k) : totGo p (l.drop k) = p := by
  rw [List.drop_of_length_le h, totGo]

set_option maxHeartbeats 400000 in
theorem total_any (A : Option Addr) (n c B : Nat) (l : List V) (w : World) (hm : n ≤ maxLen) (hB : B ≤ w.heap.size) (hv : RV w B A n l) : Calls Tryz.prog 90 #[.slice A n c] w fun e w' => e = .returned (.int .i64 (totL l)) ∧ Below w.heap.size w w' := by
  have Hn := hide hv.1
  unfold maxLen at hm
  by_cases h6 : 6 < n
  · have ht : totL l = 0 := by unfold totL; rw [if_pos (by rw [hv.1]; exact h6)]
    rw [ht]; clear ht hv
    have h6' : decide ((6 : Int) < (n : Int)) = true := by simp; omega
    go_enter Tryz.func90, Tryz.ntmps90
    go_wp2_with fail
    go_ret
    exact ⟨rfl, Below.refl _ _⟩
  · have ht : totL l = totGo 1 l := by unfold totL; rw [if_neg (by rw [hv.1]; exact h6)]
    rw [ht]; clear ht
    have h6' : decide ((6 : Int) < (n : Int)) = false := by simp; omega
    have Hv := hide hv; clear hv
    go_enter Tryz.func90, Tryz.ntmps90
    go_wp2_with fail
    go_loopw [3, 11] (fun t i wr => ∃ (k : Nat) (p : Int), k ≤ n ∧ i = .int .i64 k ∧ t = .int .i64 p ∧ 1 ≤ p ∧ p ≤ 512 ∧ Hid (totGo p (l.drop k) = totGo 1 l) ∧ Below w.heap.size w wr) (fun _ i _ => n - (intOf i).toNat)
    case atStart => exact ⟨0, 1, Nat.zero_le _, rfl, rfl, by omega, by omega, hide rfl, Below.refl _ _⟩
    case round =>
      obtain ⟨k, p, hk, rfl, rfl, hp1, hp2, HT, hb⟩ := hrel
      by_cases hlt : k < n
      · have hlt' : ((k : Int) < (n : Int)) := by omega
        obtain ⟨b, off, v, rfl, hbB, hlk, c0, c1, c2, c3, c4⟩ := (Hv.out.below (hb.mono hB)).at_ hlt
        have Hlk := hide hlk; clear hlk
        have hsz := hb.size
        go_wp2_with fail
        refine (mayv_any _ _ _ _ _ _).mono ?_
        rintro e w1 ⟨rfl, hb1⟩
        have hbw1 := below_box hb (Nat.le_refl _) hb1
        obtain ⟨d0, d1, d2, d3, d4⟩ := (box_new wr v 103).below hb1 (by simp)
        clear c0 c1 c2 c3 c4
        by_cases hmay : mayOfV v.srt v.lo v.hi = 0
        · have hmb : (mayOfV v.srt v.lo v.hi != 0) = false := by simp [hmay]
          have Hmay := hide hmay
          have sz1 := size_pos hmay
          have sz2 := (size_bd v.srt v.lo v.hi).2
          clear hmay
          go_wp2_with fail
          refine (size_any _ _ _ _ _ _).mono ?_
          rintro e w2 ⟨rfl, hb2⟩
          have hbw2 := hbw1.trans (hb2.mono hbw1.size)
          generalize hs : sizeOfV v.srt v.lo v.hi = s at *
          have Hs : Hid (v.size = s) := hide hs
          clear hs d0 d1 d2 d3 d4
          have hps : 1 ≤ p * s ∧ p * s ≤ 512 * 2001 := by
            constructor
            · have := Int.mul_le_mul hp1 sz1 (by omega) (by omega); omega
            · exact Int.mul_le_mul hp2 sz2 (by omega) (by omega)
          obtain ⟨q1, q2⟩ := hps
          by_cases ho : 512 < p * s
          · have hfin := totGo_over Hlk.out Hmay.out (p := p) (by rw [Hs.out]; exact ho)
            have Hfin := hide (HT.out.symm.trans hfin); clear hfin
            go_wp2_with fail
            go_ret
            exact ⟨ret_int Hfin.out.symm, hbw2⟩
          · have hon := totGo_on Hlk.out Hmay.out (p := p) (by rw [Hs.out]; exact ho)
            have Hon := hide (hon.symm.trans HT.out); clear hon
            go_wp2_with fail
            go_roundw
            case rel => exact ⟨k + 1, p * s, by omega, by go_num, rfl, by omega, by omega, by rw [← Hs.out]; exact Hon, hbw2⟩
            case measure => simp [intOf]; omega
        · have hmb : (mayOfV v.srt v.lo v.hi != 0) = true := by simp [hmay]
          have hfin := totGo_bad Hlk.out (p := p) hmay
          have Hfin := hide (HT.out.symm.trans hfin); clear hfin hmay
          go_wp2_with fail
          go_ret
          exact ⟨ret_int Hfin.out.symm, hbw1⟩
      · have hfin := totGo_end (p := p) (l := l) (k := k) (by rw [Hn.out]; omega)
        have Hfin := hide (HT.out.symm.trans hfin); clear hfin
        have hlt' : ¬ ((k : Int) < (n : Int)) := by omega
        go_wp2_with fail
        go_ret
        exact ⟨ret_int Hfin.out.symm, hb⟩
end Go.Proofs.YtbppdalfcldodaaGreat.Dom
namespace Go.Proofs.YtbppdalfcldodaaGreat.Dom
open Go.RowKit
set_option linter.unusedSimpArgs false
set_option linter.unusedVariables false
def resB (b : List UInt8) : Bool := (b == [98, 111, 111, 108]) || (b == [105, 110, 116]) || (b == [101, 110, 118]) || (b == [115, 121, 115]) || (b == [105, 110, 105, 116]) || (b == [119, 104, 101, 110]) || (b == [97, 115, 115, 117, 109, 101]) ||
  (b == [101, 110, 115, 117, 114, 101]) || (b == [112, 114, 105, 111]) || (b == [97, 110, 121]) || (b == [116, 114, 117, 101]) || (b == [102, 97, 108, 115, 101]) || (b == [105, 102]) || (b == [116, 104, 101, 110]) || (b == [101, 108, 115, 101]) ||
  (b == [110, 111, 116]) || (b == [97, 110, 100]) || (b == [111, 114])
def okB (c : UInt8) : Bool := letterB c.toNat || digitB c.toNat || (c == 95)
def nameB (s : ByteArray) : Bool := decide (1 ≤ s.size ∧ s.size ≤ 16) && letterB ((s.data.toList.getD 0 0).toNat : Int) && s.data.toList.all okB && !resB s.toList

set_option maxHeartbeats 1000000 in
theorem res_any (s : ByteArray) (w : World) (b : Bool) (hb : resB s.toList = b) : Calls Tryz.prog 123 #[.string s] w fun e w' => e = .returned (.bool b) ∧ w = w' := by
  have Hb := hide hb; clear hb
  go_enter Tryz.func123, Tryz.ntmps123
  go_wp2
  all_goals first
    | (exfalso; simp_all; done)
    | (go_ret; refine ⟨?_, rfl⟩; rw [← Hb.out]; simp [resB, *]; done)

theorem name_no1 {s : ByteArray} (h : s.size < 1) : nameB s = false := by simp [nameB]; omega
theorem name_no2 {s : ByteArray} (h : 16 < s.size) : nameB s = false := by simp [nameB]; omega
theorem at0 {s : ByteArray} (h : 0 < s.size) : s.data.toList.getD 0 0 = s[0] := by
  have : 0 < s.data.toList.length := by simpa using h
  rw [List.getD_eq_getElem?_getD, List.getElem?_eq_getElem this]; rfl
theorem name_no3 {s : ByteArray} (h : 0 < s.size) (hl : letterB (s[0].toNat : Int) = false) : nameB s = false := by simp only [nameB, at0 h, hl]; simp
theorem name_no4 {s : ByteArray} {k : Nat} (h : k < s.size) (hl : okB s[k] = false) : nameB s = false := by
  have : s.data.toList.all okB = false := by
    rw [List.all_eq_false]
    refine ⟨s[k], ?_, by simp [hl]⟩
    have hk : k < s.data.toList.length := by simpa using h
    have : s[k] = s.data.toList[k] := rfl
    rw [this]; exact List.getElem_mem hk
  simp [nameB, this]
theorem name_yes {s : ByteArray} (h1 : 1 ≤ s.size) (h2 : s.size ≤ 16) (hl : letterB (s[0].toNat : Int) = true) (ha : (s.data.toList.take s.size).all okB = true) : nameB s = !resB s.toList := by
  rw [List.take_of_length_le (by simp)] at ha
  have hd : decide (1 ≤ s.size ∧ s.size ≤ 16) = true := by simp [h1, h2]
  rw [nameB, at0 h1, hl, ha, hd]; simp
theorem all_snoc {s : ByteArray} {k : Nat} (h : k < s.size) (ha : (s.data.toList.take k).all okB = true) (ho : okB s[k] = true) : (s.data.toList.take (k + 1)).all okB = true := by
  rw [List.take_succ_eq_append_getElem (by simpa using h), List.all_append, ha]
  have : s.data.toList[k]'(by simpa using h) = s[k] := rfl
  simp [this, ho]
theorem okB_false {c : UInt8} (h1 : letterB (c.toNat : Int) = false) (h2 : digitB (c.toNat : Int) = false) (h3 : ((c.toNat : Int) != 95) = true) : okB c = false := by
  have : (c == 95) = false := by
    rw [beq_eq_false_iff_ne]; rintro rfl; simp at h3
  simp [okB, h1, h2, this]
theorem okB_95 {c : UInt8} (h3 : ((c.toNat : Int) != 95) = false) : okB c = true := by
  have h : c.toNat = 95 := by
    have := (bne_eq_false_iff_eq.1 h3); omega
  have : c = 95 := UInt8.toNat_inj.1 h
  simp [okB, this]

set_option maxHeartbeats 1000000 in
theorem name_any (s : ByteArray) (w : World) (hm : s.size ≤ maxLen) : Calls Tryz.prog 101 #[.string s] w fun e w' => e = .returned (.bool (nameB s)) ∧ w = w' := by
  unfold maxLen at hm
  by_cases h1 : s.size < 1
  · rw [name_no1 h1]
    have h1' : decide ((s.size : Int) < 1) = true := by simp; omega
    go_enter Tryz.func101, Tryz.ntmps101
    go_wp2_with fail
    go_ret
    exact ⟨rfl, rfl⟩
  · have h1' : decide ((s.size : Int) < 1) = false := by simp; omega
    by_cases h2 : 16 < s.size
    · rw [name_no2 h2]
      have h2' : decide ((16 : Int) < (s.size : Int)) = true := by simp; omega
      go_enter Tryz.func101, Tryz.ntmps101
      go_wp2_with fail
      go_ret
      exact ⟨rfl, rfl⟩
    · have h2' : decide ((16 : Int) < (s.size : Int)) = false := by simp; omega
      have h0 : 0 < s.size := by omega
      cases hl : letterB (s[0].toNat : Int)
      · rw [name_no3 h0 hl]
        have Hl := hide hl; clear hl
        go_enter Tryz.func101, Tryz.ntmps101
        go_wp2_with (go_at_call 121; refine (letter_any _ _ _ Hl.out).mono ?_; rintro e w' ⟨rfl, rfl⟩)
        go_ret
        exact ⟨rfl, rfl⟩
      · have Hl := hide hl; clear hl
        go_enter Tryz.func101, Tryz.ntmps101
        go_wp2_with (go_at_call 121; refine (letter_any _ _ _ Hl.out).mono ?_; rintro e w' ⟨rfl, rfl⟩)
        go_loop [20] (fun i => ∃ k : Nat, k ≤ s.size ∧ i = .int .i64 k ∧ Hid ((s.data.toList.take k).all okB = true)) (fun i => s.size - (intOf i).toNat)
        case atStart => exact ⟨0, Nat.zero_le _, rfl, hide (by simp)⟩
        case round =>
          obtain ⟨k, hk, rfl, HA⟩ := hrel
          by_cases hlt : k < s.size
          · have hlt' : (k : Int) < (s.size : Int) := by omega
            cases hL : letterB (s[k].toNat : Int)
            · have HL := hide hL; clear hL
              go_wp2_with fail
              refine (letter_any _ _ _ HL.out).mono ?_
              rintro e w' ⟨rfl, rfl⟩
              cases hD : digitB (s[k].toNat : Int)
              · have HD := hide hD; clear hD
                cases h95 : ((s[k].toNat : Int) != 95)
                · have Hok := hide (all_snoc hlt HA.out (okB_95 h95))
                  go_wp2_with (go_at_call 122; refine (digit_any _ _ _ HD.out).mono ?_; rintro e w' ⟨rfl, rfl⟩)
                  go_round
                  case rel => exact ⟨k + 1, by omega, by go_num, Hok⟩
                  case measure => simp [intOf]; omega
                · have Hno := hide (name_no4 hlt (okB_false HL.out HD.out h95))
                  go_wp2_with (go_at_call 122; refine (digit_any _ _ _ HD.out).mono ?_; rintro e w' ⟨rfl, rfl⟩)
                  go_ret
                  exact ⟨ret_bool Hno.out.symm, rfl⟩
              · have Hok := hide (all_snoc hlt HA.out (by simp [okB, hD]))
                have HD := hide hD; clear hD
                go_wp2_with (go_at_call 122; refine (digit_any _ _ _ HD.out).mono ?_; rintro e w' ⟨rfl, rfl⟩)
                go_round
                case rel => exact ⟨k + 1, by omega, by go_num, Hok⟩
                case measure => simp [intOf]; omega
            · have Hok := hide (all_snoc hlt HA.out (by simp [okB, hL]))
              have HL := hide hL; clear hL
              go_wp2_with (go_at_call 121; refine (letter_any _ _ _ HL.out).mono ?_; rintro e w' ⟨rfl, rfl⟩)
              go_round
              case rel => exact ⟨k + 1, by omega, by go_num, Hok⟩
              case measure => simp [intOf]; omega
          · have hlt' : ¬ (k : Int) < (s.size : Int) := by omega
            obtain rfl : k = s.size := by omega
            have Hn := hide (name_yes (by omega) (by omega) Hl.out HA.out)
            cases hr : resB s.toList
            all_goals
              have Hr := hide hr
              clear hr
              go_wp2_with (go_at_call 123; refine (res_any _ _ _ Hr.out).mono ?_; rintro e w' ⟨rfl, rfl⟩)
              go_ret
              exact ⟨by rw [Hn.out, Hr.out]; rfl, rfl⟩
end Go.Proofs.YtbppdalfcldodaaGreat.Dom
namespace Go.Proofs.YtbppdalfcldodaaGreat.Dom
open Go.RowKit Go.WideMaps Go.Maps
set_option linter.unusedSimpArgs false
set_option linter.unusedVariables false

def V.key (v : V) : List UInt8 := v.nm.data.toList
def mayGo (seen : List (List UInt8)) : List V → Int
  | [] => 0
  | v :: r => if nameB v.nm = false ∨ v.key ∈ seen then 3 else if v.may ≠ 0 then v.may else mayGo (seen ++ [v.key]) r
def mayL (l : List V) : Int := if mayGo [] l ≠ 0 then mayGo [] l else if totL l = 0 then 7 else 0
def namesTo (l : List V) (k : Nat) : List (List UInt8) := (l.take k).map V.key
def MapIs (D : DataW Unit) (seen : List (List UInt8)) : Prop := ∀ s : List UInt8, Maps.has D (.string s) = decide (s ∈ seen)

theorem namesTo_snoc {l : List V} {k : Nat} {v : V} (h : l[k]? = some v) : namesTo l (k + 1) = namesTo l k ++ [v.key] := by
  obtain ⟨hk, rfl⟩ := List.getElem?_eq_some_iff.1 h
  unfold namesTo; rw [List.take_succ_eq_append_getElem hk, List.map_append]; rfl
theorem mayGo_name {l : List V} {k : Nat} {v : V} (h : l[k]? = some v) (hb : nameB v.nm = false ∨ v.key ∈ namesTo l k) : mayGo (namesTo l k) (l.drop k) = 3 := by
  rw [drop_at h, mayGo, if_pos hb]
theorem mayGo_bad {l : List V} {k : Nat} {v : V} (h : l[k]? = some v) (hb : ¬ (nameB v.nm = false ∨ v.key ∈ namesTo l k)) (hm : ¬ v.may = 0) : mayGo (namesTo l k) (l.drop k) = v.may := by
  rw [drop_at h, mayGo, if_neg hb, if_pos hm]
theorem mayGo_on {l : List V} {k : Nat} {v : V} (h : l[k]? = some v) (hb : ¬ (nameB v.nm = false ∨ v.key ∈ namesTo l k)) (hm : v.may = 0) : mayGo (namesTo l k) (l.drop k) = mayGo (namesTo l (k + 1)) (l.drop (k + 1)) := by
  rw [drop_at h, mayGo, if_neg hb, if_neg (by simp [hm]), namesTo_snoc h]
theorem mayGo_end {l : List V} {k : Nat} (h : l.length ≤ k) : mayGo (namesTo l k) (l.drop k) = 0 := by
  rw [List.drop_of_length_le h, mayGo]
theorem MapIs.start : MapIs (.map []) [] := fun s => by simp [Maps.has]
theorem MapIs.put {D : DataW Unit} {seen : List (List UInt8)} (h : MapIs D seen) (hD : IsMap D) (s : List UInt8) (d : DataW Unit) : MapIs (D.put (.string s) d) (seen ++ [s]) := by
  intro t
  by_cases e : t = s
  · subst e
    rw [has_put_same hD (by simp [WideAt.IsKeyLit])]; simp
  · rw [has_put_other (fun hh => e (by injection hh))]
    rw [h t]; simp [e]

theorem law9 : Keyed Tryz.prog 9 := string_keyed Tryz.underlying9
theorem zero3 (w : World) : (zeroValue 3).run Tryz.prog w = .ok (.int .i64 0) w := by kernel_rfl
theorem owns_below {k e : TypeId} {w w' : World} {B b n : Nat} {D : DataW Unit} (h : w.ownsMap Tryz.prog k (plainElem Tryz.prog e) b n D) (hb : Below B w w') (hB : b < B) : w'.ownsMap Tryz.prog k (plainElem Tryz.prog e) b n D := by
  obtain ⟨es, clock, h1, h2⟩ := h
  exact ⟨es, clock, (hb.block b hB).trans h1, h2⟩
theorem owns_lt {k e : TypeId} {w : World} {b n : Nat} {D : DataW Unit} (h : w.ownsMap Tryz.prog k (plainElem Tryz.prog e) b n D) : b < w.heap.size := by
  obtain ⟨es, clock, h1, h2⟩ := h
  exact (Array.getElem?_eq_some_iff.1 h1).1

set_option maxHeartbeats 1000000 in
theorem may_any (A : Option Addr) (n c B : Nat) (l : List V) (w : World) (hm : n ≤ maxLen) (hB : B ≤ w.heap.size) (hv : RV w B A n l) (hnm : ∀ v ∈ l, v.nm.size ≤ maxLen) : Calls Tryz.prog 74 #[.slice A n c] w fun e w' => e = .returned (.int .i64 (mayL l)) ∧ Below w.heap.size w w' := by
  have Hm := hide hm
  have Hn := hide hv.1
  have Hnm := hide hnm; clear hnm
  unfold maxLen at hm
  have Hv := hide hv; clear hv
  have hmm := @run_makeMap Tryz.prog
  go_enter Tryz.func74, Tryz.ntmps74
  go_wp2_with fail
  clear hmm
  go_loopw [12] (fun i wr => ∃ (k : Nat) (D : DataW Unit), k ≤ n ∧ i = .int .i64 k ∧ wr.ownsMap Tryz.prog 9 (plainElem Tryz.prog 3) w.heap.size k D ∧ Hid (MapIs D (namesTo l k)) ∧ Hid (mayGo (namesTo l k) (l.drop k) = mayGo [] l) ∧ Below w.heap.size w wr) (fun i _ => n - (intOf i).toNat)
  case atStart => exact ⟨0, .map [], Nat.zero_le _, rfl, World.ownsMap_made _ _ _ _, hide MapIs.start, hide rfl, (Below.refl _ _).alloc (Nat.le_refl _) _⟩
  case round =>
    obtain ⟨k, D, hk, rfl, hown, HM, HT, hb⟩ := hrel
    by_cases hlt : k < n
    · have hlt' : ((k : Int) < (n : Int)) := by omega
      obtain ⟨b, off, v, rfl, hbB, hlk, c0, c1, c2, c3, c4⟩ := (Hv.out.below (hb.mono hB)).at_ hlt
      have Hlk := hide hlk
      have hvl : v.nm.size ≤ maxLen := Hnm.out v (List.mem_of_getElem? hlk)
      clear hlk
      have hkey : keyOf Tryz.prog 9 (.string v.nm) = some (.string v.key) := keyOf_string_mk Tryz.underlying9 hvl
      have hwlt := owns_lt hown
      have Hown := hide hown; clear hown
      have Hkey := hide hkey; clear hkey
      by_cases hin : v.key ∈ namesTo l k
      · have Hhas := hide ((HM.out v.key).trans (decide_eq_true hin))
        have Hfin := hide (HT.out.symm.trans (mayGo_name Hlk.out (.inr hin)))
        clear hin
        go_wp2_with (at_lookup; refine wpList_lookup_own_ok_int _ rfl _ _ 133 rfl 9 3 .i64 law9 Tryz.underlying133 Tryz.underlying3 (zero3 _) w.heap.size k D rfl (Hown.out.alloc _) _ _ rfl Hkey.out ?_; intro cL hat hwc; rw [Hhas.out]; clear hat hwc)
        go_ret
        refine ⟨ret_int ?_, hb.alloc hb.size _⟩
        unfold mayL; rw [Hfin.out]; rfl
      · have Hhas := hide ((HM.out v.key).trans (decide_eq_false hin))
        have Hin := hide hin; clear hin
        go_wp2_with (at_lookup; refine wpList_lookup_own_ok_int _ rfl _ _ 133 rfl 9 3 .i64 law9 Tryz.underlying133 Tryz.underlying3 (zero3 _) w.heap.size k D rfl (Hown.out.alloc _) _ _ rfl Hkey.out ?_; intro cL hat hwc; rw [Hhas.out]; clear hat hwc)
        refine (name_any _ _ hvl).mono ?_
        rintro e w1 ⟨rfl, rfl⟩
        cases hN : nameB v.nm
        · have Hfin := hide (HT.out.symm.trans (mayGo_name Hlk.out (.inl hN)))
          clear hN
          go_wp2_with fail
          go_ret
          refine ⟨ret_int ?_, hb.alloc hb.size _⟩
          unfold mayL; rw [Hfin.out]; rfl
        · have Hok : Hid (¬ (nameB v.nm = false ∨ v.key ∈ namesTo l k)) := hide (by rw [hN]; simp [Hin.out])
          clear hN
          go_wp2_with fail
          refine (mayv_any _ _ _ _ _ _).mono ?_
          rintro e w1 ⟨rfl, hb1⟩
          have hbw1 := below_box hb (Nat.le_refl _) hb1
          obtain ⟨d0, d1, d2, d3, d4⟩ := (box_new wr v 103).below hb1 (by simp)
          have Hown1 := hide (owns_below (Hown.out.alloc _) hb1 (by simp; omega))
          clear c0 c1 c2 c3 c4 Hown
          by_cases hmay : mayOfV v.srt v.lo v.hi = 0
          · have hmb : (mayOfV v.srt v.lo v.hi != 0) = false := by simp [hmay]
            have Hon := hide ((mayGo_on Hlk.out Hok.out hmay).symm.trans HT.out)
            clear hmay
            go_wp2_with (at_mapUpdate; refine wpList_mapUpdate_own _ rfl _ _ _ 133 rfl 9 3 law9 Tryz.underlying133 _ w.heap.size k D rfl Hown1.out (by have := Hm.out; omega) _ _ _ rfl rfl Hkey.out _ [] (plainElem_int Tryz.underlying3 (WalkArith.wf_i64 (by omega))) ?_; intro w2 hown2 hg2)
            have hbw2 := hbw1.grown hg2 hbw1.size (fun j hj => by cases hj; exact Nat.le_refl _)
            have HM2 : Hid (MapIs _ (namesTo l (k + 1))) := hide (by rw [namesTo_snoc Hlk.out]; exact HM.out.put (Hown1.out.isMap) v.key (.lit (.int .i64 k)))
            clear hg2 d0 d1 d2 d3 d4
            go_wp2_with fail
            go_roundw
            case rel => exact ⟨k + 1, _, by omega, by go_num, hown2, HM2, Hon, hbw2⟩
            case measure => simp [intOf]; omega
          · have hmb : (mayOfV v.srt v.lo v.hi != 0) = true := by simp [hmay]
            have Hfin := hide (HT.out.symm.trans (mayGo_bad Hlk.out Hok.out hmay))
            have Hmay : Hid (¬ v.may = 0) := hide hmay
            clear hmay
            go_wp2_with fail
            go_ret
            refine ⟨ret_int ?_, hbw1⟩
            unfold mayL; rw [Hfin.out, if_pos Hmay.out]; rfl
    · have Hfin := hide (HT.out.symm.trans (mayGo_end (l := l) (k := k) (by rw [Hn.out]; omega)))
      have hlt' : ¬ ((k : Int) < (n : Int)) := by omega
      have Hv1 := hide (Hv.out.below (hb.mono hB))
      have hsz := hb.size
      clear Hv
      go_wp2_with fail
      refine (total_any A n c B l _ Hm.out (by omega) Hv1.out).mono ?_
      rintro e w1 ⟨rfl, hb1⟩
      have hbw1 := hb.trans (hb1.mono hsz)
      by_cases hz : totL l = 0
      · have hzb : (totL l == 0) = true := by simp [hz]
        have Hz := hide hz; clear hz
        go_wp2_with fail
        go_ret
        refine ⟨ret_int ?_, hbw1⟩
        unfold mayL; rw [Hfin.out, Hz.out]; rfl
      · have hzb : (totL l == 0) = false := by simp [hz]
        have Hz := hide hz; clear hz
        go_wp2_with fail
        go_ret
        refine ⟨ret_int ?_, hbw1⟩
        unfold mayL; rw [Hfin.out, if_neg Hz.out]; rfl
end Go.Proofs.YtbppdalfcldodaaGreat.Dom
namespace Go.Proofs.YtbppdalfcldodaaGreat.Dom
open Go.RowKit Go.WideMaps Go.Maps
set_option linter.unusedSimpArgs false
set_option linter.unusedVariables false

def valsL : List V → Int → List Int
  | [], _ => []
  | v :: r, s => (v.lo + s % v.size) :: valsL r (s / v.size)
theorem valsL_length : ∀ (l : List V) (s : Int), (valsL l s).length = l.length
  | [], _ => rfl
  | v :: r, s => by simp [valsL, valsL_length r]

theorem mayGo_all : ∀ (l : List V) (seen : List (List UInt8)), mayGo seen l = 0 → ∀ v ∈ l, v.may = 0 ∧ nameB v.nm = true
  | [], _, _ => by simp
  | u :: r, seen, h => by
    rw [mayGo] at h
    split at h
    · omega
    · split at h
      · omega
      · rename_i h1 h2
        intro v hv
        rcases List.mem_cons.1 hv with rfl | hv
        · exact ⟨by simpa using h2, by
            rcases Bool.eq_false_or_eq_true (nameB v.nm) with h3 | h3
            · exact h3
            · exact absurd (.inl h3) h1⟩
        · exact mayGo_all r _ h v hv
theorem mayL_zero {l : List V} (h : mayL l = 0) : mayGo [] l = 0 ∧ totL l ≠ 0 := by
  unfold mayL at h
  split at h
  · exact absurd h (by assumption)
  · rename_i h1
    split at h
    · omega
    · exact ⟨by simpa using h1, by assumption⟩
theorem mayL_all {l : List V} (h : mayL l = 0) : ∀ v ∈ l, v.may = 0 := fun v hv => (mayGo_all l _ (mayL_zero h).1 v hv).1
theorem totGo_bd : ∀ (l : List V) (t : Int), 0 ≤ t → t ≤ 512 → 0 ≤ totGo t l ∧ totGo t l ≤ 512
  | [], t, h0, h1 => ⟨h0, h1⟩
  | v :: r, t, h0, h1 => by
    rw [totGo]
    split
    · omega
    · split
      · omega
      · have := (size_bd v.srt v.lo v.hi).1
        exact totGo_bd r _ (Int.mul_nonneg h0 this) (by omega)
theorem totL_bd (l : List V) : 0 ≤ totL l ∧ totL l ≤ 512 := by
  unfold totL; split
  · omega
  · exact totGo_bd l 1 (by omega) (by omega)
theorem totL_len {l : List V} (h : totL l ≠ 0) : l.length ≤ 6 := by
  unfold totL at h; split at h
  · exact absurd rfl h
  · omega

theorem info3 : (Tryz.prog.info? 3).map (fun i => (i.zero, i.size, i.bytes)) = some (some (.int .i64 0), 1, 8) := by kernel_rfl
theorem wrap64_small (n : Int) (h1 : -100000 ≤ n) (h2 : n ≤ 100000) : wrap64 n = n := by unfold wrap64; omega
def GoodVals (w : World) (n : Nat) (xs : List Int) (e : Ending) (w' : World) : Prop :=
  ∃ g, e = .returned (.tuple #[.slice (some ⟨g, 0, none⟩) n n, .bool true]) ∧ w.heap.size ≤ g ∧ w'.rowIs g 3 n (fun i => .int .i64 (xs.getD i 0)) ∧ Below w.heap.size w w'

def partV (xs : List Int) (k : Nat) (i : Nat) : Value := .int .i64 (if i < k then xs.getD i 0 else 0)

theorem vals_step {l : List V} {s st : Int} {k : Nat} {v : V} (h : l[k]? = some v) (hd : (valsL l s).drop k = valsL (l.drop k) st) :
    (valsL l s)[k]? = some (v.lo + st % v.size) ∧ (valsL l s).drop (k + 1) = valsL (l.drop (k + 1)) (st / v.size) := by
  rw [drop_at h, valsL] at hd
  constructor
  · have := congrArg (fun x => x[0]?) hd
    simpa [List.getElem?_drop] using this
  · have := congrArg (fun x => x.drop 1) hd
    simpa [List.drop_drop, Nat.add_comm] using this
theorem part_step {xs : List Int} {k : Nat} {x : Int} (h : xs[k]? = some x) (i : Nat) : (if i = k then Value.int .i64 x else partV xs k i) = partV xs (k + 1) i := by
  unfold partV
  by_cases e : i = k
  · subst e; simp [List.getD, h]
  · rw [if_neg e]
    by_cases e2 : i < k
    · rw [if_pos e2, if_pos (by omega)]
    · rw [if_neg e2, if_neg (by omega)]

set_option maxHeartbeats 1000000 in
theorem vals_bad (A : Option Addr) (n c B : Nat) (l : List V) (s : Int) (w : World) (hm : n ≤ maxLen) (hB : B ≤ w.heap.size) (hv : RV w B A n l) (hnm : ∀ v ∈ l, v.nm.size ≤ maxLen) (hbad : mayL l ≠ 0 ∨ s < 0 ∨ totL l ≤ s) :
    Calls Tryz.prog 67 #[.slice A n c, .int .i64 s] w fun e w' => e = .returned (.tuple #[.slice none 0 0, .bool false]) ∧ Below w.heap.size w w' := by
  have Hm := hide hm
  have Hnm := hide hnm; clear hnm
  have Hv := hide hv; clear hv
  by_cases h1 : mayL l = 0
  · have h1b : (mayL l != 0) = false := by simp [h1]
    have H1 := hide h1; clear h1
    by_cases h2 : s < 0
    · have h2b : decide (s < 0) = true := by simp [h2]
      clear hbad hm
      go_enter Tryz.func67, Tryz.ntmps67
      go_wp2_with fail
      refine (may_any A n c B l _ Hm.out hB Hv.out Hnm.out).mono ?_
      rintro e w1 ⟨rfl, hb1⟩
      go_wp2_with fail
      go_ret2
      exact ⟨rfl, hb1⟩
    · have h2b : decide (s < 0) = false := by simp [h2]
      have h3 : totL l ≤ s := by rcases hbad with h | h | h <;> first | exact h | exact absurd h h2 | exact absurd H1.out h
      have h3b : decide (totL l ≤ s) = true := by simp [h3]
      clear hbad hm
      go_enter Tryz.func67, Tryz.ntmps67
      go_wp2_with fail
      refine (may_any A n c B l _ Hm.out hB Hv.out Hnm.out).mono ?_
      rintro e w1 ⟨rfl, hb1⟩
      go_wp2_with fail
      refine (total_any A n c B l _ Hm.out (Nat.le_trans hB hb1.size) (Hv.out.below (hb1.mono hB))).mono ?_
      rintro e w2 ⟨rfl, hb2⟩
      have hbw2 := hb1.trans (hb2.mono hb1.size)
      go_wp2_with fail
      go_ret2
      exact ⟨rfl, hbw2⟩
  · have h1b : (mayL l != 0) = true := by simp [h1]
    clear hbad hm h1
    go_enter Tryz.func67, Tryz.ntmps67
    go_wp2_with fail
    refine (may_any A n c B l _ Hm.out hB Hv.out Hnm.out).mono ?_
    rintro e w1 ⟨rfl, hb1⟩
    go_wp2_with fail
    go_ret2
    exact ⟨rfl, hb1⟩

set_option maxHeartbeats 1000000 in
theorem vals_good (A : Option Addr) (n c B : Nat) (l : List V) (s : Int) (w : World) (hB : B ≤ w.heap.size) (hv : RV w B A n l) (hnm : ∀ v ∈ l, v.nm.size ≤ maxLen) (h1 : mayL l = 0) (h2 : 0 ≤ s) (h3 : s < totL l) :
    Calls Tryz.prog 67 #[.slice A n c, .int .i64 s] w (GoodVals w n (valsL l s)) := by
  have hn6 : n ≤ 6 := by have := totL_len (mayL_zero h1).2; rw [hv.1] at this; exact this
  have hm : n ≤ maxLen := by unfold maxLen; omega
  have hs512 : s < 512 := by have := (totL_bd l).2; omega
  have Hm := hide hm
  have Hn := hide hv.1
  have Hnm := hide hnm; clear hnm
  have Hv := hide hv; clear hv
  have h1b : (mayL l != 0) = false := by simp [h1]
  have Hall := hide (mayL_all h1)
  have H1 := hide h1; clear h1
  have h2b : decide (s < 0) = false := by simp; omega
  have h3b : decide (totL l ≤ s) = false := by simp; omega
  have Hl := hide (valsL_length l s)
  clear hm
  have hmk := run_make_row' (P := Tryz.prog) 32 3 (.int .i64 0) 8 Tryz.underlying32 info3 rfl .i64 .i64 n (by omega) (by omega)
  go_enter Tryz.func67, Tryz.ntmps67
  go_wp2_with fail
  refine (may_any A n c B l _ Hm.out hB Hv.out Hnm.out).mono ?_
  rintro e w1 ⟨rfl, hb1⟩
  go_wp2_with fail
  refine (total_any A n c B l _ Hm.out (Nat.le_trans hB hb1.size) (Hv.out.below (hb1.mono hB))).mono ?_
  rintro e w2 ⟨rfl, hb2⟩
  have hbw2 := hb1.trans (hb2.mono hb1.size)
  go_wp2_with fail
  clear hmk
  have hbw3 : Below w.heap.size w (w2.alloc (.cells (madeCells #[.int .i64 0] n) 3)) := hbw2.alloc hbw2.size _
  have hrow := World.rowIs_made w2 (.int .i64 0) n 3
  generalize hg : w2.heap.size = g at *
  have hgw : w.heap.size ≤ g := by rw [← hg]; exact hbw2.size
  clear hg
  generalize hw3 : w2.alloc (.cells (madeCells #[.int .i64 0] n) 3) = w3 at *
  clear hw3 hb1 hb2 hbw2
  go_loopw [1, 28] (fun t i wr => ∃ (k : Nat) (st : Int), k ≤ n ∧ i = .int .i64 k ∧ t = .int .i64 st ∧ 0 ≤ st ∧ st < 512 ∧ Hid ((valsL l s).drop k = valsL (l.drop k) st) ∧ wr.rowIs g 3 n (partV (valsL l s) k) ∧ Below w.heap.size w wr) (fun _ i _ => n - (intOf i).toNat)
  case atStart => exact ⟨0, s, Nat.zero_le _, rfl, rfl, h2, hs512, hide rfl, hrow.congr (fun i hi => by simp [partV]), hbw3⟩
  case round =>
    obtain ⟨k, st, hk, rfl, rfl, hst0, hst1, HT, hrw, hb⟩ := hrel
    by_cases hlt : k < n
    · have hlt' : ((k : Int) < (n : Int)) := by omega
      obtain ⟨b, off, v, rfl, hbB, hlk, c0, c1, c2, c3, c4⟩ := (Hv.out.below (hb.mono hB)).at_ hlt
      have hmay := Hall.out v (List.mem_of_getElem? hlk)
      have sz1 := size_pos hmay
      have sz2 := (size_bd v.srt v.lo v.hi).2
      obtain ⟨lo1, lo2⟩ := may_lo hmay
      have Hlk := hide hlk; clear hlk hmay
      have hsz := hb.size
      go_wp2_with fail
      refine (size_any _ _ _ _ _ _).mono ?_
      rintro e w4 ⟨rfl, hb4⟩
      have hbw4 := below_box hb (Nat.le_refl _) hb4
      obtain ⟨d0, d1, d2, d3, d4⟩ := (box_new wr v 103).below hb4 (by simp)
      clear c0 c1 c2 c3 c4
      generalize hs : sizeOfV v.srt v.lo v.hi = z at *
      have Hs : Hid (v.size = z) := hide hs
      clear hs
      have hrw4 : w4.rowIs g 3 n (partV (valsL l s) k) := (hrw.alloc _).of_block (hb4.block g (by have := hrw.lt; simp; omega))
      obtain ⟨u, hu⟩ : ∃ u, w4.cell? ⟨g, k, none⟩ = some u := ⟨_, hrw4.cell hlt⟩
      have hfz := hrw4.frozen k
      have Hrw4 := hide hrw4
      clear hrw4 hrw hrow
      go_wp2_with fail
      go_region
      have hr1 : 0 ≤ st % z := Int.emod_nonneg _ (by omega)
      have hr2 : st % z < z := Int.emod_lt_of_pos st (by omega)
      rw [show wrap64 (v.lo + st % z) = v.lo + st % z from wrap64_small _ (by omega) (by omega)]
      have hq0 : 0 ≤ st / z := Int.ediv_nonneg hst0 (by omega)
      have hq1 : st / z ≤ st := Int.ediv_le_self _ hst0
      have Hstep := hide (vals_step Hlk.out HT.out)
      rw [Hs.out] at Hstep
      have hbw5 : Below w.heap.size w (w4.setCell ⟨g, k, none⟩ (.int .i64 (v.lo + st % z))).drew := (hbw4.setCell (by exact hgw) _).drew
      have hrw5 : (w4.setCell ⟨g, k, none⟩ (.int .i64 (v.lo + st % z))).drew.rowIs g 3 n (partV (valsL l s) (k + 1)) := ((Hrw4.out.set k _).congr (fun i hi => part_step Hstep.out.1 i)).drew
      have Hrw5 := hide hrw5
      clear hrw5 d0 d1 d2 d3 d4 hu hfz hb4
      go_wp2_with fail
      go_roundw
      case rel => exact ⟨k + 1, st / z, by omega, by go_num, rfl, by omega, by omega, hide Hstep.out.2, Hrw5.out, hbw5⟩
      case measure => simp [intOf]; omega
    · have hlt' : ¬ ((k : Int) < (n : Int)) := by omega
      obtain rfl : k = n := by omega
      go_wp2_with fail
      go_ret2
      exact ⟨g, rfl, hgw, hrw.congr (fun i hi => by simp [partV, hi]), hb⟩
end Go.Proofs.YtbppdalfcldodaaGreat.Dom
