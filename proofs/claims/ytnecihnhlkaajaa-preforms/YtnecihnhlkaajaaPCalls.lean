/- Contracts of package pre that speak of one world W, behind which all is new. -/
import Derived.Test.YtnecihnhlkaajaaPLight
import Derived.Test.YtnecihnhlkaajaaGSame
namespace Go.Proofs.Ytnecihnhlkaajaa.Gr
open Go.RowKit
open Go.Sort (grow)
set_option linter.unusedSimpArgs false
set_option linter.unusedVariables false
section
variable {W X : World} {OA NA A A2 : Option Addr} {on oc nn nc n c n2 c2 : Nat} {g : GT} {who : Int} {l l2 : List Bool}
def Out (W X w' : World) : Prop := Hid (Below X.heap.size X w') ∧ Hid (Below W.heap.size W w') ∧ Hid (Below w'.heap.size w' w')
theorem out_of (hs : Hid (Below W.heap.size W X)) {w' : World} (hb : Below X.heap.size X w') : Out W X w' := ⟨hide hb, hide (hs.out.trans (hb.mono hs.out.size)), hide (Below.refl _ _)⟩
theorem rg_x {Y : World} (h : Hid (RG Y Y.heap.size ⟨OA, on, oc⟩ ⟨NA, nn, nc⟩ g)) (hb : Hid (Below Y.heap.size Y X)) : RG X X.heap.size ⟨OA, on, oc⟩ ⟨NA, nn, nc⟩ g := (h.out.below hb.out).more hb.out.size
theorem rb_x {Y : World} (h : Hid (RB Y Y.heap.size ⟨A, n, c⟩ l)) (hb : Hid (Below Y.heap.size Y X)) : RB X X.heap.size ⟨A, n, c⟩ l := (h.out.below hb.out).more hb.out.size
theorem c_rmay {Y : World} (h : Hid (RG Y Y.heap.size ⟨OA, on, oc⟩ ⟨NA, nn, nc⟩ g)) (hb : Hid (Below Y.heap.size Y X)) (hs : Hid (Below W.heap.size W X)) : Calls Try.prog 17 #[.agg #[.slice OA on oc, .slice NA nn nc]] X fun e w' => e = .returned (.int .i64 (mayG g)) ∧ Out W X w' :=
  (rmay_any _ OA NA on oc nn nc g X (Nat.le_refl _) (rg_x h hb)).mono fun e w' ⟨he, h1⟩ => ⟨he, out_of hs h1⟩
theorem c_rrow {Y Z : World} (h : Hid (RB Y Y.heap.size ⟨A, n, c⟩ l)) (hb : Hid (Below Y.heap.size Y X)) (h2 : Hid (RB Z Z.heap.size ⟨A2, n2, c2⟩ l)) (hb2 : Hid (Below Z.heap.size Z X)) (hs : Hid (Below W.heap.size W X)) :
    Calls Try.prog 14 #[.slice A n c, .slice A2 n2 c2] X fun e w' => e = .returned (.bool true) ∧ Out W X w' :=
  (rrow_any _ A n c l A2 n2 c2 l X (Nat.le_refl _) (rb_x h hb) (rb_x h2 hb2)).mono fun e w' ⟨he, h1⟩ => ⟨by rw [he]; simp, out_of hs h1⟩
theorem c_force {Y Z : World} (h : Hid (RG Y Y.heap.size ⟨OA, on, oc⟩ ⟨NA, nn, nc⟩ g)) (hb : Hid (Below Y.heap.size Y X)) (h2 : Hid (RB Z Z.heap.size ⟨A, n, c⟩ l)) (hb2 : Hid (Below Z.heap.size Z X)) (hs : Hid (Below W.heap.size W X)) :
    Calls Try.prog 15 #[.agg #[.slice OA on oc, .slice NA nn nc], .int .i64 who, .slice A n c] X fun e w' => ∃ A n c, e = .returned (.slice A n c) ∧ Hid (RB w' w'.heap.size ⟨A, n, c⟩ (forceL g who l)) ∧ Out W X w' :=
  (dforce_any _ OA NA on oc nn nc g who A n c l X (Nat.le_refl _) (rg_x h hb) (rb_x h2 hb2)).mono fun e w' ⟨⟨A, n, c⟩, he, h1, h2⟩ => ⟨A, n, c, he, hide h1, out_of hs h2⟩
theorem c_rforce {Y Z : World} (h : Hid (RG Y Y.heap.size ⟨OA, on, oc⟩ ⟨NA, nn, nc⟩ g)) (hb : Hid (Below Y.heap.size Y X)) (h2 : Hid (RB Z Z.heap.size ⟨A, n, c⟩ l)) (hb2 : Hid (Below Z.heap.size Z X)) (hs : Hid (Below W.heap.size W X)) :
    Calls Try.prog 16 #[.agg #[.slice OA on oc, .slice NA nn nc], .int .i64 who, .slice A n c] X fun e w' => ∃ A n c, e = .returned (.slice A n c) ∧ Hid (RB w' w'.heap.size ⟨A, n, c⟩ (forceL g who l)) ∧ Out W X w' :=
  (rforce_any _ OA NA on oc nn nc g who A n c l X (Nat.le_refl _) (rg_x h hb) (rb_x h2 hb2)).mono fun e w' ⟨⟨A, n, c⟩, he, h1, h2⟩ => ⟨A, n, c, he, hide h1, out_of hs h2⟩
theorem c_not {Y Z : World} (hm : Hid (on ≤ 2 ^ 48)) (h : Hid (RG Y Y.heap.size ⟨OA, on, oc⟩ ⟨NA, nn, nc⟩ g)) (hb : Hid (Below Y.heap.size Y X)) (h2 : Hid (RB Z Z.heap.size ⟨A, n, c⟩ l)) (hb2 : Hid (Below Z.heap.size Z X)) (hs : Hid (Below W.heap.size W X)) :
    Calls Try.prog 9 #[.agg #[.slice OA on oc, .slice NA nn nc], .slice A n c] X fun e w' => ∃ A n c, e = .returned (.slice A n c) ∧ Hid (RB w' w'.heap.size ⟨A, n, c⟩ (notL on l)) ∧ Out W X w' :=
  (dnot_any _ OA NA on oc nn nc g A n c l X (Nat.le_refl _) (rg_x h hb) (rb_x h2 hb2) hm.out).mono fun e w' ⟨⟨A, n, c⟩, he, h1, h2⟩ => ⟨A, n, c, he, hide h1, out_of hs h2⟩
theorem c_and {Y Z Z2 : World} (hm : Hid (on ≤ 2 ^ 48)) (h : Hid (RG Y Y.heap.size ⟨OA, on, oc⟩ ⟨NA, nn, nc⟩ g)) (hb : Hid (Below Y.heap.size Y X)) (h2 : Hid (RB Z Z.heap.size ⟨A, n, c⟩ l)) (hb2 : Hid (Below Z.heap.size Z X)) (h3 : Hid (RB Z2 Z2.heap.size ⟨A2, n2, c2⟩ l2)) (hb3 : Hid (Below Z2.heap.size Z2 X)) (hs : Hid (Below W.heap.size W X)) :
    Calls Try.prog 10 #[.agg #[.slice OA on oc, .slice NA nn nc], .slice A n c, .slice A2 n2 c2] X fun e w' => ∃ A n c, e = .returned (.slice A n c) ∧ Hid (RB w' w'.heap.size ⟨A, n, c⟩ (andL on l l2)) ∧ Out W X w' :=
  (dand_any _ OA NA on oc nn nc g A n c l A2 n2 c2 l2 X (Nat.le_refl _) (rg_x h hb) (rb_x h2 hb2) (rb_x h3 hb3) hm.out).mono fun e w' ⟨⟨A, n, c⟩, he, h1, h2⟩ => ⟨A, n, c, he, hide h1, out_of hs h2⟩
theorem c_or {Y Z Z2 : World} (hm : Hid (on ≤ 2 ^ 48)) (h : Hid (RG Y Y.heap.size ⟨OA, on, oc⟩ ⟨NA, nn, nc⟩ g)) (hb : Hid (Below Y.heap.size Y X)) (h2 : Hid (RB Z Z.heap.size ⟨A, n, c⟩ l)) (hb2 : Hid (Below Z.heap.size Z X)) (h3 : Hid (RB Z2 Z2.heap.size ⟨A2, n2, c2⟩ l2)) (hb3 : Hid (Below Z2.heap.size Z2 X)) (hs : Hid (Below W.heap.size W X)) :
    Calls Try.prog 11 #[.agg #[.slice OA on oc, .slice NA nn nc], .slice A n c, .slice A2 n2 c2] X fun e w' => ∃ A n c, e = .returned (.slice A n c) ∧ Hid (RB w' w'.heap.size ⟨A, n, c⟩ (orL on l l2)) ∧ Out W X w' :=
  (dor_any _ OA NA on oc nn nc g A n c l A2 n2 c2 l2 X (Nat.le_refl _) (rg_x h hb) (rb_x h2 hb2) (rb_x h3 hb3) hm.out).mono fun e w' ⟨⟨A, n, c⟩, he, h1, h2⟩ => ⟨A, n, c, he, hide h1, out_of hs h2⟩
theorem c_count {Y Z : World} (h : Hid (RG Y Y.heap.size ⟨OA, on, oc⟩ ⟨NA, nn, nc⟩ g)) (hb : Hid (Below Y.heap.size Y X)) (h2 : Hid (RB Z Z.heap.size ⟨A, n, c⟩ l)) (hb2 : Hid (Below Z.heap.size Z X)) (hs : Hid (Below W.heap.size W X)) :
    Calls Try.prog 13 #[.agg #[.slice OA on oc, .slice NA nn nc], .slice A n c] X fun e w' => e = .returned (.int .i64 (countL on l : Nat)) ∧ Out W X w' :=
  (dcount_any _ OA NA on oc nn nc g A n c l X (Nat.le_refl _) (rg_x h hb) (rb_x h2 hb2)).mono fun e w' ⟨he, h1⟩ => ⟨he, out_of hs h1⟩
theorem c_awake (hs : Hid (Below W.heap.size W X)) : Calls Try.prog 8 #[] X fun e w' => e = .returned (.bool true) ∧ Out W X w' := (awake_any X).mono fun e w' ⟨he, h1⟩ => ⟨he, out_of hs h1⟩
theorem keep2 {w' : World} {b : Nat} {v0 v1 : Value} (hs : Hid (Below W.heap.size W w')) (hb : b < W.heap.size) (c0 : W.cell? ⟨b, 0, none⟩ = some v0) (c1 : W.cell? ⟨b, 1, none⟩ = some v1) :
    w'.cell? ⟨b, 0, none⟩ = some v0 ∧ w'.cell? ⟨b, 1, none⟩ = some v1 := ⟨(hs.out.cell (p := ⟨b, 0, none⟩) hb).trans c0, (hs.out.cell (p := ⟨b, 1, none⟩) hb).trans c1⟩
theorem rb_map {B m k : Nat} {f : Nat → Bool} (h : RB X B ⟨A, n, c⟩ ((List.range m).map f)) (hk : k < m) : ∃ b off, A = some ⟨b, off, none⟩ ∧ b < B ∧ X.cell? ⟨b, off + k, none⟩ = some (.bool (f k)) := by
  have hn := h.len
  simp at hn
  obtain ⟨b, off, e, hb, hc⟩ := h.2.2.2.1 (by show 0 < n; omega)
  exact ⟨b, off, e, hb, hc k _ (by rw [List.getElem?_map, List.getElem?_range hk]; rfl)⟩
end
end Go.Proofs.Ytnecihnhlkaajaa.Gr
