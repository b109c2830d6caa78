/- The walk of GraphForms. -/
import Derived.Test.YtdcdpknlloffjaaGAwake
import Derived.Test.YtdcdpknlloffjaaGOnlyR
import Derived.Test.YtdcdpknlloffjaaGFollR
namespace Go.Proofs.Ytdcdpknlloffjaa.Gr
open Go.RowKit
open Go.Sort (grow)
set_option linter.unusedSimpArgs false
set_option linter.unusedVariables false

/- contracts that speak of one world W, behind which all is new; what came back lies where it lies -/
section
variable {W X : World} {OA NA OA2 NA2 A A2 : Option Addr} {on oc nn nc on2 oc2 nn2 nc2 n c n2 c2 : Nat} {g g2 : GT} {who : Int} {l l2 : List Bool} {ls : List (List Int)} {li : List Int}
def Out (W X w' : World) : Prop := Hid (Below X.heap.size X w') ∧ Hid (Below W.heap.size W w') ∧ Hid (Below w'.heap.size w' w')
theorem out_of (hs : Hid (Below W.heap.size W X)) {w' : World} (hb : Below X.heap.size X w') : Out W X w' := ⟨hide hb, hide (hs.out.trans (hb.mono hs.out.size)), hide (Below.refl _ _)⟩
theorem rg_x {Y : World} (h : Hid (RG Y Y.heap.size ⟨OA, on, oc⟩ ⟨NA, nn, nc⟩ g)) (hb : Hid (Below Y.heap.size Y X)) : RG X X.heap.size ⟨OA, on, oc⟩ ⟨NA, nn, nc⟩ g := (h.out.below hb.out).more hb.out.size
theorem rb_x {Y : World} (h : Hid (RB Y Y.heap.size ⟨A, n, c⟩ l)) (hb : Hid (Below Y.heap.size Y X)) : RB X X.heap.size ⟨A, n, c⟩ l := (h.out.below hb.out).more hb.out.size
theorem ri_x {Y : World} (h : Hid (RI Y Y.heap.size ⟨A, n, c⟩ li)) (hb : Hid (Below Y.heap.size Y X)) : RI X X.heap.size ⟨A, n, c⟩ li := (h.out.below hb.out).more hb.out.size
theorem rr_x {Y : World} (h : Hid (RR Y Y.heap.size ⟨A, n, c⟩ ls)) (hb : Hid (Below Y.heap.size Y X)) : RR X X.heap.size ⟨A, n, c⟩ ls := (h.out.below hb.out).more hb.out.size
theorem c_may {Y : World} (h : Hid (RG Y Y.heap.size ⟨OA, on, oc⟩ ⟨NA, nn, nc⟩ g)) (hb : Hid (Below Y.heap.size Y X)) (hs : Hid (Below W.heap.size W X)) : Calls Try.prog 10 #[.agg #[.slice OA on oc, .slice NA nn nc]] X fun e w' => e = .returned (.int .i64 (mayG g)) ∧ Out W X w' :=
  (may_any _ OA NA on oc nn nc g X (Nat.le_refl _) (rg_x h hb)).mono fun e w' ⟨he, h1⟩ => ⟨he, out_of hs h1⟩
theorem c_rmay {Y : World} (h : Hid (RG Y Y.heap.size ⟨OA, on, oc⟩ ⟨NA, nn, nc⟩ g)) (hb : Hid (Below Y.heap.size Y X)) (hs : Hid (Below W.heap.size W X)) : Calls Try.prog 11 #[.agg #[.slice OA on oc, .slice NA nn nc]] X fun e w' => e = .returned (.int .i64 (mayG g)) ∧ Out W X w' :=
  (rmay_any _ OA NA on oc nn nc g X (Nat.le_refl _) (rg_x h hb)).mono fun e w' ⟨he, h1⟩ => ⟨he, out_of hs h1⟩
theorem c_heavy {Y : World} (h : Hid (RG Y Y.heap.size ⟨OA, on, oc⟩ ⟨NA, nn, nc⟩ g)) (hb : Hid (Below Y.heap.size Y X)) (hs : Hid (Below W.heap.size W X)) : Calls Try.prog 8 #[.agg #[.slice OA on oc, .slice NA nn nc]] X fun e w' => e = .returned (.int .i64 (hvG g)) ∧ Out W X w' :=
  (heavy_any _ OA NA on oc nn nc g X (Nat.le_refl _) (rg_x h hb)).mono fun e w' ⟨he, h1⟩ => ⟨he, out_of hs h1⟩
theorem c_dsame {Y Z : World} (h : Hid (RG Y Y.heap.size ⟨OA, on, oc⟩ ⟨NA, nn, nc⟩ g)) (hb : Hid (Below Y.heap.size Y X)) (h2 : Hid (RG Z Z.heap.size ⟨OA2, on2, oc2⟩ ⟨NA2, nn2, nc2⟩ g2)) (hb2 : Hid (Below Z.heap.size Z X)) (hs : Hid (Below W.heap.size W X)) :
    Calls Try.prog 12 #[.agg #[.slice OA on oc, .slice NA nn nc], .agg #[.slice OA2 on2 oc2, .slice NA2 nn2 nc2]] X fun e w' => e = .returned (.bool (sameG g g2)) ∧ Out W X w' :=
  (dsame_any _ OA NA on oc nn nc g OA2 NA2 on2 oc2 nn2 nc2 g2 X (Nat.le_refl _) (rg_x h hb) (rg_x h2 hb2)).mono fun e w' ⟨he, h1⟩ => ⟨he, out_of hs h1⟩
theorem c_rsame {Y Z : World} (h : Hid (RG Y Y.heap.size ⟨OA, on, oc⟩ ⟨NA, nn, nc⟩ g)) (hb : Hid (Below Y.heap.size Y X)) (h2 : Hid (RG Z Z.heap.size ⟨OA2, on2, oc2⟩ ⟨NA2, nn2, nc2⟩ g2)) (hb2 : Hid (Below Z.heap.size Z X)) (hs : Hid (Below W.heap.size W X)) :
    Calls Try.prog 13 #[.agg #[.slice OA on oc, .slice NA nn nc], .agg #[.slice OA2 on2 oc2, .slice NA2 nn2 nc2]] X fun e w' => e = .returned (.bool (sameG g g2)) ∧ Out W X w' :=
  (rsame_any _ OA NA on oc nn nc g OA2 NA2 on2 oc2 nn2 nc2 g2 X (Nat.le_refl _) (rg_x h hb) (rg_x h2 hb2)).mono fun e w' ⟨he, h1⟩ => ⟨he, out_of hs h1⟩
theorem c_rnext {Y Z : World} (h : Hid (RR Y Y.heap.size ⟨A, n, c⟩ ls)) (hb : Hid (Below Y.heap.size Y X)) (h2 : Hid (RR Z Z.heap.size ⟨A2, n2, c2⟩ ls)) (hb2 : Hid (Below Z.heap.size Z X)) (hs : Hid (Below W.heap.size W X)) :
    Calls Try.prog 14 #[.slice A n c, .slice A2 n2 c2] X fun e w' => e = .returned (.bool true) ∧ Out W X w' :=
  (rnext_any _ A n c ls A2 n2 c2 ls X (Nat.le_refl _) (rr_x h hb) (rr_x h2 hb2)).mono fun e w' ⟨he, h1⟩ => ⟨by rw [he]; simp, out_of hs h1⟩
theorem c_rrow {Y Z : World} (h : Hid (RB Y Y.heap.size ⟨A, n, c⟩ l)) (hb : Hid (Below Y.heap.size Y X)) (h2 : Hid (RB Z Z.heap.size ⟨A2, n2, c2⟩ l)) (hb2 : Hid (Below Z.heap.size Z X)) (hs : Hid (Below W.heap.size W X)) :
    Calls Try.prog 17 #[.slice A n c, .slice A2 n2 c2] X fun e w' => e = .returned (.bool true) ∧ Out W X w' :=
  (rrow_any _ A n c l A2 n2 c2 l X (Nat.le_refl _) (rb_x h hb) (rb_x h2 hb2)).mono fun e w' ⟨he, h1⟩ => ⟨by rw [he]; simp, out_of hs h1⟩
theorem c_bef {Y : World} (h : Hid (RG Y Y.heap.size ⟨OA, on, oc⟩ ⟨NA, nn, nc⟩ g)) (hb : Hid (Below Y.heap.size Y X)) (hs : Hid (Below W.heap.size W X)) : Calls Try.prog 15 #[.agg #[.slice OA on oc, .slice NA nn nc]] X fun e w' => ∃ A n c, e = .returned (.slice A n c) ∧ Hid (NewR X.heap.size w' ⟨A, n, c⟩ (befL g)) ∧ Hid (RR w' w'.heap.size ⟨A, n, c⟩ (befL g)) ∧ Out W X w' :=
  (dbef_any _ OA NA on oc nn nc g X (Nat.le_refl _) (rg_x h hb)).mono fun e w' ⟨⟨A, n, c⟩, he, h1, h2⟩ => ⟨A, n, c, he, hide h1, hide h1.rr, out_of hs h2⟩
theorem c_rbef {Y : World} (h : Hid (RG Y Y.heap.size ⟨OA, on, oc⟩ ⟨NA, nn, nc⟩ g)) (hb : Hid (Below Y.heap.size Y X)) (hs : Hid (Below W.heap.size W X)) : Calls Try.prog 16 #[.agg #[.slice OA on oc, .slice NA nn nc]] X fun e w' => ∃ A n c, e = .returned (.slice A n c) ∧ Hid (RR w' w'.heap.size ⟨A, n, c⟩ (befL g)) ∧ Out W X w' :=
  (rbef_any _ OA NA on oc nn nc g X (Nat.le_refl _) (rg_x h hb)).mono fun e w' ⟨⟨A, n, c⟩, he, h1, h2⟩ => ⟨A, n, c, he, hide h1.rr, out_of hs h2⟩
theorem c_reach {Y Z : World} (h : Hid (RG Y Y.heap.size ⟨OA, on, oc⟩ ⟨NA, nn, nc⟩ g)) (hb : Hid (Below Y.heap.size Y X)) (h2 : Hid (RB Z Z.heap.size ⟨A, n, c⟩ l)) (hb2 : Hid (Below Z.heap.size Z X)) (hs : Hid (Below W.heap.size W X)) :
    Calls Try.prog 18 #[.agg #[.slice OA on oc, .slice NA nn nc], .slice A n c] X fun e w' => ∃ A n c, e = .returned (.slice A n c) ∧ Hid (RB w' w'.heap.size ⟨A, n, c⟩ (reachL g l)) ∧ Out W X w' :=
  (dreach_any _ OA NA on oc nn nc g A n c l X (Nat.le_refl _) (rg_x h hb) (rb_x h2 hb2)).mono fun e w' ⟨⟨A, n, c⟩, he, h1, h2⟩ => ⟨A, n, c, he, hide h1, out_of hs h2⟩
theorem c_rreach {Y Z : World} (h : Hid (RG Y Y.heap.size ⟨OA, on, oc⟩ ⟨NA, nn, nc⟩ g)) (hb : Hid (Below Y.heap.size Y X)) (h2 : Hid (RB Z Z.heap.size ⟨A, n, c⟩ l)) (hb2 : Hid (Below Z.heap.size Z X)) (hs : Hid (Below W.heap.size W X)) :
    Calls Try.prog 19 #[.agg #[.slice OA on oc, .slice NA nn nc], .slice A n c] X fun e w' => ∃ A n c, e = .returned (.slice A n c) ∧ Hid (RB w' w'.heap.size ⟨A, n, c⟩ (reachL g l)) ∧ Out W X w' :=
  (rreach_any _ OA NA on oc nn nc g A n c l X (Nat.le_refl _) (rg_x h hb) (rb_x h2 hb2)).mono fun e w' ⟨⟨A, n, c⟩, he, h1, h2⟩ => ⟨A, n, c, he, hide h1, out_of hs h2⟩
theorem c_dead {Y : World} (h : Hid (RG Y Y.heap.size ⟨OA, on, oc⟩ ⟨NA, nn, nc⟩ g)) (hb : Hid (Below Y.heap.size Y X)) (hs : Hid (Below W.heap.size W X)) :
    Calls Try.prog 20 #[.agg #[.slice OA on oc, .slice NA nn nc], .int .i64 who] X fun e w' => ∃ A n c, e = .returned (.slice A n c) ∧ Hid (RB w' w'.heap.size ⟨A, n, c⟩ (deadL g who)) ∧ Out W X w' :=
  (ddead_any _ OA NA on oc nn nc g who X (Nat.le_refl _) (rg_x h hb)).mono fun e w' ⟨⟨A, n, c⟩, he, h1, h2⟩ => ⟨A, n, c, he, hide h1, out_of hs h2⟩
theorem c_rdead {Y : World} (h : Hid (RG Y Y.heap.size ⟨OA, on, oc⟩ ⟨NA, nn, nc⟩ g)) (hb : Hid (Below Y.heap.size Y X)) (hs : Hid (Below W.heap.size W X)) :
    Calls Try.prog 21 #[.agg #[.slice OA on oc, .slice NA nn nc], .int .i64 who] X fun e w' => ∃ A n c, e = .returned (.slice A n c) ∧ Hid (RB w' w'.heap.size ⟨A, n, c⟩ (deadL g who)) ∧ Out W X w' :=
  (rdead_any _ OA NA on oc nn nc g who X (Nat.le_refl _) (rg_x h hb)).mono fun e w' ⟨⟨A, n, c⟩, he, h1, h2⟩ => ⟨A, n, c, he, hide h1, out_of hs h2⟩
theorem c_only {Y Z : World} (h : Hid (RG Y Y.heap.size ⟨OA, on, oc⟩ ⟨NA, nn, nc⟩ g)) (hb : Hid (Below Y.heap.size Y X)) (h2 : Hid (RB Z Z.heap.size ⟨A, n, c⟩ l)) (hb2 : Hid (Below Z.heap.size Z X)) (hs : Hid (Below W.heap.size W X)) :
    Calls Try.prog 22 #[.agg #[.slice OA on oc, .slice NA nn nc], .slice A n c] X fun e w' => ∃ A n c A2 n2 c2, e = .returned (.agg #[.slice A n c, .slice A2 n2 c2]) ∧ Hid (NewG X.heap.size w' ⟨A, n, c⟩ ⟨A2, n2, c2⟩ (thinG (pOnly l) g)) ∧ Hid (RG w' w'.heap.size ⟨A, n, c⟩ ⟨A2, n2, c2⟩ (thinG (pOnly l) g)) ∧ Out W X w' :=
  (only_any _ OA NA on oc nn nc g A n c l X (Nat.le_refl _) (rg_x h hb) (rb_x h2 hb2)).mono fun e w' ⟨⟨A, n, c⟩, ⟨A2, n2, c2⟩, he, h1, h2⟩ => ⟨A, n, c, A2, n2, c2, he, hide h1, hide h1.rg, out_of hs h2⟩
theorem c_ronly {Y Z : World} (h : Hid (RG Y Y.heap.size ⟨OA, on, oc⟩ ⟨NA, nn, nc⟩ g)) (hb : Hid (Below Y.heap.size Y X)) (h2 : Hid (RB Z Z.heap.size ⟨A, n, c⟩ l)) (hb2 : Hid (Below Z.heap.size Z X)) (hs : Hid (Below W.heap.size W X)) :
    Calls Try.prog 23 #[.agg #[.slice OA on oc, .slice NA nn nc], .slice A n c] X fun e w' => ∃ A n c A2 n2 c2, e = .returned (.agg #[.slice A n c, .slice A2 n2 c2]) ∧ Hid (RG w' w'.heap.size ⟨A, n, c⟩ ⟨A2, n2, c2⟩ (thinG (pOnly l) g)) ∧ Out W X w' :=
  (ronly_any _ OA NA on oc nn nc g (pOnly l) A n c l X (Nat.le_refl _) (rg_x h hb) (rb_x h2 hb2) (fun _ _ => rfl)).mono fun e w' ⟨⟨A, n, c⟩, ⟨A2, n2, c2⟩, he, h1, h2⟩ => ⟨A, n, c, A2, n2, c2, he, hide h1.rg, out_of hs h2⟩
theorem c_foll {Y Z : World} (h : Hid (RG Y Y.heap.size ⟨OA, on, oc⟩ ⟨NA, nn, nc⟩ g)) (hb : Hid (Below Y.heap.size Y X)) (h2 : Hid (RI Z Z.heap.size ⟨A, n, c⟩ li)) (hb2 : Hid (Below Z.heap.size Z X)) (hs : Hid (Below W.heap.size W X)) :
    Calls Try.prog 24 #[.agg #[.slice OA on oc, .slice NA nn nc], .int .i64 who, .slice A n c] X fun e w' => ∃ A n c A2 n2 c2, e = .returned (.agg #[.slice A n c, .slice A2 n2 c2]) ∧ Hid (NewG X.heap.size w' ⟨A, n, c⟩ ⟨A2, n2, c2⟩ (thinG (pFoll g who li) g)) ∧ Hid (RG w' w'.heap.size ⟨A, n, c⟩ ⟨A2, n2, c2⟩ (thinG (pFoll g who li) g)) ∧ Out W X w' :=
  (foll_any _ OA NA on oc nn nc g who A n c li X (Nat.le_refl _) (rg_x h hb) (ri_x h2 hb2)).mono fun e w' ⟨⟨A, n, c⟩, ⟨A2, n2, c2⟩, he, h1, h2⟩ => ⟨A, n, c, A2, n2, c2, he, hide h1, hide h1.rg, out_of hs h2⟩
theorem c_rfoll {Y Z : World} (h : Hid (RG Y Y.heap.size ⟨OA, on, oc⟩ ⟨NA, nn, nc⟩ g)) (hb : Hid (Below Y.heap.size Y X)) (h2 : Hid (RI Z Z.heap.size ⟨A, n, c⟩ li)) (hb2 : Hid (Below Z.heap.size Z X)) (hs : Hid (Below W.heap.size W X)) :
    Calls Try.prog 25 #[.agg #[.slice OA on oc, .slice NA nn nc], .int .i64 who, .slice A n c] X fun e w' => ∃ A n c A2 n2 c2, e = .returned (.agg #[.slice A n c, .slice A2 n2 c2]) ∧ Hid (RG w' w'.heap.size ⟨A, n, c⟩ ⟨A2, n2, c2⟩ (thinG (pFoll g who li) g)) ∧ Out W X w' :=
  (rfoll_any _ OA NA on oc nn nc g (pFoll g who li) who A n c li X (Nat.le_refl _) (rg_x h hb) (ri_x h2 hb2) (fun _ _ => rfl)).mono fun e w' ⟨⟨A, n, c⟩, ⟨A2, n2, c2⟩, he, h1, h2⟩ => ⟨A, n, c, A2, n2, c2, he, hide h1.rg, out_of hs h2⟩
theorem c_awake (hs : Hid (Below W.heap.size W X)) : Calls Try.prog 9 #[] X fun e w' => e = .returned (.bool true) ∧ Out W X w' := (awake_any X).mono fun e w' ⟨he, h1⟩ => ⟨he, out_of hs h1⟩
theorem keep4 {w' : World} {b b2 : Nat} {v0 v1 v2 v3 : Value} (hs : Hid (Below W.heap.size W w')) (hb : b < W.heap.size) (hb2 : b2 < W.heap.size) (c0 : W.cell? ⟨b, 0, none⟩ = some v0) (c1 : W.cell? ⟨b, 1, none⟩ = some v1) (d0 : W.cell? ⟨b2, 0, none⟩ = some v2) (d1 : W.cell? ⟨b2, 1, none⟩ = some v3) :
    w'.cell? ⟨b, 0, none⟩ = some v0 ∧ w'.cell? ⟨b, 1, none⟩ = some v1 ∧ w'.cell? ⟨b2, 0, none⟩ = some v2 ∧ w'.cell? ⟨b2, 1, none⟩ = some v3 :=
  ⟨(hs.out.cell (p := ⟨b, 0, none⟩) hb).trans c0, (hs.out.cell (p := ⟨b, 1, none⟩) hb).trans c1, (hs.out.cell (p := ⟨b2, 0, none⟩) hb2).trans d0, (hs.out.cell (p := ⟨b2, 1, none⟩) hb2).trans d1⟩
end
theorem wrapEq (x : Int) : IntKind.i64.wrap x = wrap64 x := by rw [IntKind.wrap_i64]; unfold wrap64; omega
theorem q_heavy {W : World} {OA NA : Option Addr} {on oc nn nc : Nat} {g : GT} (h : Hid (RG W W.heap.size ⟨OA, on, oc⟩ ⟨NA, nn, nc⟩ g)) (dd : Nat) (os : Array Obj) : Calls Try.prog 8 #[.agg #[.slice OA on oc, .slice NA nn nc]] (grow (redrawn W dd) os) fun e w' => e = .returned (.int .i64 (hvG g)) ∧ Below (grow (redrawn W dd) os).heap.size (grow (redrawn W dd) os) w' :=
  heavy_any _ OA NA on oc nn nc g _ (Nat.le_refl _) ((h.out.below (below_regrown W dd os)).more (below_regrown W dd os).size)
theorem same_self (g : GT) : sameG g g = true := by simp [sameG]
set_option maxRecDepth 100000 in
set_option maxHeartbeats 4000000 in
theorem forms_any (B : Nat) (OA NA : Option Addr) (on oc nn nc : Nat) (g : GT) (OA2 NA2 : Option Addr) (on2 oc2 nn2 nc2 : Nat) (g2 : GT) (A3 : Option Addr) (n3 c3 : Nat) (l : List Bool) (who : Int) (A4 : Option Addr) (n4 c4 : Nat) (tl : List Int) (w : World) (hB : B ≤ w.heap.size)
    (hg : RG w B ⟨OA, on, oc⟩ ⟨NA, nn, nc⟩ g) (hg2 : RG w B ⟨OA2, on2, oc2⟩ ⟨NA2, nn2, nc2⟩ g2) (hr : RB w B ⟨A3, n3, c3⟩ l) (ht : RI w B ⟨A4, n4, c4⟩ tl) :
    Calls Try.prog 3 #[.agg #[.slice OA on oc, .slice NA nn nc], .agg #[.slice OA2 on2 oc2, .slice NA2 nn2 nc2], .slice A3 n3 c3, .int .i64 who, .slice A4 n4 c4] w fun e w' => e = .returned (.bool true) ∧ Below w.heap.size w w' := by
  have hbx : Below w.heap.size w ((w.alloc (.cells #[.slice OA on oc, .slice NA nn nc] 25)).alloc (.cells #[.slice OA2 on2 oc2, .slice NA2 nn2 nc2] 25)) := ((Below.refl _ _).alloc (Nat.le_refl _) _).alloc (by simp) _
  obtain ⟨bx1, bx2⟩ := two_box w OA NA OA2 NA2 on oc nn nc on2 oc2 nn2 nc2
  have hz0 : w.heap.size + 2 ≤ ((w.alloc (.cells #[.slice OA on oc, .slice NA nn nc] 25)).alloc (.cells #[.slice OA2 on2 oc2, .slice NA2 nn2 nc2] 25)).heap.size := by simp
  have hn3 : n3 ≤ 2 ^ 63 - 1 := Nat.le_trans hr.2.1 hr.2.2.1
  have hn4 : n4 ≤ 2 ^ 63 - 1 := Nat.le_trans ht.2.1 ht.2.2.1
  have Hg := hide ((hg.below (hbx.mono hB)).more (Nat.le_trans hB hbx.size))
  have Hg2 := hide ((hg2.below (hbx.mono hB)).more (Nat.le_trans hB hbx.size))
  have Hr := hide ((RB.below hr (hbx.mono hB)).more (Nat.le_trans hB hbx.size))
  have Ht := hide ((RI.below ht (hbx.mono hB)).more (Nat.le_trans hB hbx.size))
  have Hbx1 := hide bx1
  have Hbx2 := hide bx2
  have Hbx := hide hbx
  clear hg hg2 hr ht bx1 bx2 hbx
  go_enter Try.func3, Try.ntmps3
  go_wp2_with fail
  generalize (w.alloc (.cells #[.slice OA on oc, .slice NA nn nc] 25)).alloc (.cells #[.slice OA2 on2 oc2, .slice NA2 nn2 nc2] 25) = W at *
  have h1 : w.heap.size < W.heap.size := by omega
  have h2 : w.heap.size + 1 < W.heap.size := by omega
  obtain ⟨c0, c1⟩ := Hbx1.out
  obtain ⟨d0, d1⟩ := Hbx2.out
  simp only [SL.v] at c0 c1 d0 d1
  have Hdr : Hid (Below W.heap.size W W.drew) := hide (Below.refl _ _).drew
  go_upto_region 1 with fail
  go_cut [26] from 11 to 26 (fun s wx => ∃ b : Bool, s = .bool b ∧ Hid (Below W.heap.size W wx))
  case first =>
    have C0 := cell_regrown c0
    have C1 := cell_regrown c1
    have D0 := cell_regrown d0
    have D1 := cell_regrown d1
    clear c0 c1 d0 d1
    cases hh : decide (0 < wrap64 (hvG g + hvG g2))
    · have hh' : decide (0 < IntKind.i64.wrap (hvG g + hvG g2)) = false := by rw [wrapEq]; exact hh
      cases hk : decide (300 < (n3 : Int))
      · cases hk2 : decide (300 < (n4 : Int))
        · skip
          refine wp_region_quiet_below (by kernel_rfl) (by kernel_rfl) ?_
          repeat (go_big_quiet_step ((go_at_call 8; exact Calls.regrown_of (q_heavy (by assumption) _ _))))
          refine wpQuiet_nil ?_
          intro w3 hw3
          obtain ⟨p, hp⟩ := hw3
          have hb3 := hide (show Below W.heap.size W w3 by rw [hp]; exact below_regrown W p.d p.os)
          clear hp
          go_wp2_with fail
          go_meet
          exact ⟨false, rfl, hb3⟩
        · skip
          refine wp_region_quiet_below (by kernel_rfl) (by kernel_rfl) ?_
          repeat (go_big_quiet_step ((go_at_call 8; exact Calls.regrown_of (q_heavy (by assumption) _ _))))
          refine wpQuiet_nil ?_
          intro w3 hw3
          obtain ⟨p, hp⟩ := hw3
          have hb3 := hide (show Below W.heap.size W w3 by rw [hp]; exact below_regrown W p.d p.os)
          clear hp
          go_wp2_with fail
          go_meet
          exact ⟨true, rfl, hb3⟩
      · skip
        refine wp_region_quiet_below (by kernel_rfl) (by kernel_rfl) ?_
        repeat (go_big_quiet_step ((go_at_call 8; exact Calls.regrown_of (q_heavy (by assumption) _ _))))
        refine wpQuiet_nil ?_
        intro w3 hw3
        obtain ⟨p, hp⟩ := hw3
        have hb3 := hide (show Below W.heap.size W w3 by rw [hp]; exact below_regrown W p.d p.os)
        clear hp
        go_wp2_with fail
        go_meet
        exact ⟨true, rfl, hb3⟩
    · have hh' : decide (0 < IntKind.i64.wrap (hvG g + hvG g2)) = true := by rw [wrapEq]; exact hh
      refine wp_region_quiet_below (by kernel_rfl) (by kernel_rfl) ?_
      repeat (go_big_quiet_step ((go_at_call 8; exact Calls.regrown_of (q_heavy (by assumption) _ _))))
      refine wpQuiet_nil ?_
      intro w3 hw3
      obtain ⟨p, hp⟩ := hw3
      have hb3 := hide (show Below W.heap.size W w3 by rw [hp]; exact below_regrown W p.d p.os)
      clear hp
      go_wp2_with fail
      go_meet
      exact ⟨true, rfl, hb3⟩
  case rest =>
    obtain ⟨b, rfl, HW⟩ := hcut
    have hzc := HW.out.size
    cases b
    · have hs := hide (HW.out.drew)
      have hself : ∀ g, sameG g g = true := same_self
      obtain ⟨e0, e1, e2, e3⟩ := keep4 HW h1 h2 c0 c1 d0 d1
      have f0 := hide e0; have f1 := hide e1; have f2 := hide e2; have f3 := hide e3
      go_wp2_with fail
      go_region_held3 (fun w' => w'.cell? ⟨w.heap.size, 0, none⟩ = some (.slice OA on oc) ∧ w'.cell? ⟨w.heap.size, 1, none⟩ = some (.slice NA nn nc) ∧ w'.cell? ⟨w.heap.size + 1, 0, none⟩ = some (.slice OA2 on2 oc2) ∧ w'.cell? ⟨w.heap.size + 1, 1, none⟩ = some (.slice NA2 nn2 nc2))
        (first | exact keep4 (by assumption) h1 h2 c0 c1 d0 d1)
        (first
          | (go_at_call 10; refine (c_may (W := W) (by assumption) (by assumption) (by assumption)).mono ?_; rintro e w1 ⟨rfl, hx1, hx2, hx3⟩)
          | (go_at_call 11; refine (c_rmay (W := W) (by assumption) (by assumption) (by assumption)).mono ?_; rintro e w1 ⟨rfl, hx1, hx2, hx3⟩)
          | (go_at_call 12; refine (c_dsame (W := W) (by assumption) (by assumption) (by assumption) (by assumption) (by assumption)).mono ?_; rintro e w1 ⟨rfl, hx1, hx2, hx3⟩)
          | (go_at_call 13; refine (c_rsame (W := W) (by assumption) (by assumption) (by assumption) (by assumption) (by assumption)).mono ?_; rintro e w1 ⟨rfl, hx1, hx2, hx3⟩)
          | (go_at_call 14; refine (c_rnext (W := W) (by assumption) (by assumption) (by assumption) (by assumption) (by assumption)).mono ?_; rintro e w1 ⟨rfl, hx1, hx2, hx3⟩)
          | (go_at_call 15; refine (c_bef (W := W) (by assumption) (by assumption) (by assumption)).mono ?_; rintro e w1 ⟨kA, kn, kc, rfl, _, hk, hx1, hx2, hx3⟩)
          | (go_at_call 16; refine (c_rbef (W := W) (by assumption) (by assumption) (by assumption)).mono ?_; rintro e w1 ⟨kA, kn, kc, rfl, hk, hx1, hx2, hx3⟩)
          | (go_at_call 17; refine (c_rrow (W := W) (by assumption) (by assumption) (by assumption) (by assumption) (by assumption)).mono ?_; rintro e w1 ⟨rfl, hx1, hx2, hx3⟩)
          | (go_at_call 18; refine (c_reach (W := W) (by assumption) (by assumption) (by assumption) (by assumption) (by assumption)).mono ?_; rintro e w1 ⟨kA, kn, kc, rfl, hk, hx1, hx2, hx3⟩)
          | (go_at_call 19; refine (c_rreach (W := W) (by assumption) (by assumption) (by assumption) (by assumption) (by assumption)).mono ?_; rintro e w1 ⟨kA, kn, kc, rfl, hk, hx1, hx2, hx3⟩)
          | (go_at_call 20; refine (c_dead (W := W) (by assumption) (by assumption) (by assumption)).mono ?_; rintro e w1 ⟨kA, kn, kc, rfl, hk, hx1, hx2, hx3⟩)
          | (go_at_call 21; refine (c_rdead (W := W) (by assumption) (by assumption) (by assumption)).mono ?_; rintro e w1 ⟨kA, kn, kc, rfl, hk, hx1, hx2, hx3⟩)
          | (go_at_call 22; refine (c_only (W := W) (by assumption) (by assumption) (by assumption) (by assumption) (by assumption)).mono ?_; rintro e w1 ⟨kA, kn, kc, kA2, kn2, kc2, rfl, _, hk, hx1, hx2, hx3⟩)
          | (go_at_call 23; refine (c_ronly (W := W) (by assumption) (by assumption) (by assumption) (by assumption) (by assumption)).mono ?_; rintro e w1 ⟨kA, kn, kc, kA2, kn2, kc2, rfl, hk, hx1, hx2, hx3⟩)
          | (go_at_call 24; refine (c_foll (W := W) (by assumption) (by assumption) (by assumption) (by assumption) (by assumption)).mono ?_; rintro e w1 ⟨kA, kn, kc, kA2, kn2, kc2, rfl, _, hk, hx1, hx2, hx3⟩)
          | (go_at_call 25; refine (c_rfoll (W := W) (by assumption) (by assumption) (by assumption) (by assumption) (by assumption)).mono ?_; rintro e w1 ⟨kA, kn, kc, kA2, kn2, kc2, rfl, hk, hx1, hx2, hx3⟩)
          | (go_at_call 9; refine (c_awake (W := W) (by assumption)).mono ?_; rintro e w1 ⟨rfl, hx1, hx2, hx3⟩))
      go_wp2_with fail
      go_ret
      exact ⟨rfl, Hbx.out.trans (hx2.out.mono (by omega))⟩
    · go_wp2_with fail
      refine (awake_any _).mono ?_
      rintro e w4 ⟨rfl, hb4⟩
      have Hf := hide (Hbx.out.trans ((HW.out.trans (hb4.mono hzc)).mono (by omega)))
      clear hb4
      go_wp2_with fail
      go_ret
      exact ⟨rfl, Hf.out⟩
end Go.Proofs.Ytdcdpknlloffjaa.Gr
