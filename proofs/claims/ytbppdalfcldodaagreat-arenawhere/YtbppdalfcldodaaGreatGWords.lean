/- Games, rows of numbers, of marks and of rows, and how they lie in memory. -/
import Derived.Test.YtbppdalfcldodaaGreatProg
import Derived.WalkKit
import Derived.Deep.OwnRows
import Derived.Deep.AppendLies
set_option maxRecDepth 100000
namespace Go.Proofs.YtbppdalfcldodaaGreat.Gr
open Go.RowKit
set_option linter.unusedVariables false

theorem hide {p : Prop} (h : p) : Hid p := h
theorem ret_bool {a b : Bool} (h : a = b) : Ending.returned (.bool a) = .returned (.bool b) := by rw [h]
theorem ret_int {k : IntKind} {a b : Int} (h : a = b) : Ending.returned (.int k a) = .returned (.int k b) := by rw [h]

structure SL where
  A : Option Addr
  n : Nat
  c : Nat
def SL.v (s : SL) : Value := .slice s.A s.n s.c
def Rows {α : Type} (P : World → Nat → Nat → Nat → α → Prop) (w : World) (B : Nat) (s : SL) (l : List α) : Prop :=
  l.length = s.n ∧ s.n ≤ s.c ∧ s.c ≤ maxLen ∧ (0 < s.n → ∃ b off, s.A = some ⟨b, off, none⟩ ∧ b < B ∧ ∀ k x, l[k]? = some x → P w B b (off + k) x) ∧ (s.A = none → s.c = 0)
def IntAt (w : World) (B b o : Nat) (x : Int) : Prop := w.cell? ⟨b, o, none⟩ = some (.int .i64 x)
def BoolAt (w : World) (B b o : Nat) (x : Bool) : Prop := w.cell? ⟨b, o, none⟩ = some (.bool x)
abbrev RI (w : World) (B : Nat) (s : SL) (l : List Int) : Prop := Rows IntAt w B s l
abbrev RB (w : World) (B : Nat) (s : SL) (l : List Bool) : Prop := Rows BoolAt w B s l
def RowAt (w : World) (B b o : Nat) (l : List Int) : Prop := ∃ s : SL, w.cell? ⟨b, o, none⟩ = some s.v ∧ RI w B s l
abbrev RR (w : World) (B : Nat) (s : SL) (l : List (List Int)) : Prop := Rows RowAt w B s l
/- a game -/
structure GT where
  own : List Int
  nxt : List (List Int)
structure RG (w : World) (B : Nat) (O N : SL) (g : GT) : Prop where
  own : RI w B O g.own
  nxt : RR w B N g.nxt
def Box2 (w : World) (b : Nat) (O N : SL) : Prop := w.cell? ⟨b, 0, none⟩ = some O.v ∧ w.cell? ⟨b, 1, none⟩ = some N.v

section
variable {α : Type} {P : World → Nat → Nat → Nat → α → Prop} {w w' : World} {B B' : Nat} {s O N : SL} {l : List α} {g : GT}
theorem Rows.len (h : Rows P w B s l) : l.length = s.n := h.1
theorem Rows.keep (h : Rows P w B s l) (hP : ∀ b o x, b < B → P w B b o x → P w' B b o x) : Rows P w' B s l :=
  ⟨h.1, h.2.1, h.2.2.1, fun hn => by
    obtain ⟨b, off, e, hb, hc⟩ := h.2.2.2.1 hn
    exact ⟨b, off, e, hb, fun k x hx => hP b _ x hb (hc k x hx)⟩, h.2.2.2.2⟩
theorem Rows.moreP (h : Rows P w B s l) (hB : B ≤ B') (hP : ∀ b o x, P w B b o x → P w B' b o x) : Rows P w B' s l :=
  ⟨h.1, h.2.1, h.2.2.1, fun hn => by
    obtain ⟨b, off, e, hb, hc⟩ := h.2.2.2.1 hn
    exact ⟨b, off, e, by omega, fun k x hx => hP b _ x (hc k x hx)⟩, h.2.2.2.2⟩
theorem Rows.at_ (h : Rows P w B s l) {k : Nat} (hk : k < s.n) : ∃ b off x, s.A = some ⟨b, off, none⟩ ∧ b < B ∧ l[k]? = some x ∧ P w B b (off + k) x := by
  obtain ⟨b, off, e, hb, hc⟩ := h.2.2.2.1 (by omega)
  have hkl : k < l.length := by have := h.1; omega
  exact ⟨b, off, _, e, hb, List.getElem?_eq_getElem hkl, hc k _ (List.getElem?_eq_getElem hkl)⟩
theorem RI.below {l : List Int} (h : RI w B s l) (hb : Below B w w') : RI w' B s l := h.keep fun b o x h1 hx => (hb.cell (by exact h1)).trans hx
theorem RB.below {l : List Bool} (h : RB w B s l) (hb : Below B w w') : RB w' B s l := h.keep fun b o x h1 hx => (hb.cell (by exact h1)).trans hx
theorem RI.more {l : List Int} (h : RI w B s l) (hB : B ≤ B') : RI w B' s l := h.moreP hB fun _ _ _ hx => hx
theorem RB.more {l : List Bool} (h : RB w B s l) (hB : B ≤ B') : RB w B' s l := h.moreP hB fun _ _ _ hx => hx
theorem RowAt.below {b o : Nat} {l : List Int} (h : RowAt w B b o l) (hb : Below B w w') (h1 : b < B) : RowAt w' B b o l := by
  obtain ⟨s, hc, hr⟩ := h
  exact ⟨s, (hb.cell (by exact h1)).trans hc, hr.below hb⟩
theorem RR.below {l : List (List Int)} (h : RR w B s l) (hb : Below B w w') : RR w' B s l := h.keep fun b o x h1 hx => hx.below hb h1
theorem RR.more {l : List (List Int)} (h : RR w B s l) (hB : B ≤ B') : RR w B' s l := h.moreP hB fun _ _ _ ⟨s, hc, hr⟩ => ⟨s, hc, hr.more hB⟩
theorem RG.below (h : RG w B O N g) (hb : Below B w w') : RG w' B O N g := ⟨h.own.below hb, h.nxt.below hb⟩
theorem RG.more (h : RG w B O N g) (hB : B ≤ B') : RG w B' O N g := ⟨h.own.more hB, h.nxt.more hB⟩
theorem Box2.below {b : Nat} (h : Box2 w b O N) (hb : Below B w w') (hB : b < B) : Box2 w' b O N := ⟨(hb.cell (by exact hB)).trans h.1, (hb.cell (by exact hB)).trans h.2⟩
theorem RI.at_ {l : List Int} {A : Option Addr} {n c k : Nat} (h : RI w B ⟨A, n, c⟩ l) (hk : k < n) : ∃ b off x, A = some ⟨b, off, none⟩ ∧ b < B ∧ l[k]? = some x ∧ w.cell? ⟨b, off + k, none⟩ = some (.int .i64 x) := Rows.at_ h hk
theorem RB.at_ {l : List Bool} {A : Option Addr} {n c k : Nat} (h : RB w B ⟨A, n, c⟩ l) (hk : k < n) : ∃ b off x, A = some ⟨b, off, none⟩ ∧ b < B ∧ l[k]? = some x ∧ w.cell? ⟨b, off + k, none⟩ = some (.bool x) := Rows.at_ h hk
theorem RR.at_ {l : List (List Int)} {A : Option Addr} {n c k : Nat} (h : RR w B ⟨A, n, c⟩ l) (hk : k < n) : ∃ b off x A2 n2 c2, A = some ⟨b, off, none⟩ ∧ b < B ∧ l[k]? = some x ∧ w.cell? ⟨b, off + k, none⟩ = some (.slice A2 n2 c2) ∧ RI w B ⟨A2, n2, c2⟩ x := by
  obtain ⟨b, off, x, h1, h2, h3, ⟨A2, n2, c2⟩, h4, h5⟩ := Rows.at_ h hk
  exact ⟨b, off, x, A2, n2, c2, h1, h2, h3, h4, h5⟩
end
theorem box_new (w : World) (OA NA : Option Addr) (on oc nn nc : Nat) (t : TypeId) : Box2 (w.alloc (.cells #[.slice OA on oc, .slice NA nn nc] t)) w.heap.size ⟨OA, on, oc⟩ ⟨NA, nn, nc⟩ := by
  unfold Box2
  simp [go_sem, SL.v]
theorem drop_at {α : Type} {l : List α} {k : Nat} {v : α} (h : l[k]? = some v) : l.drop k = v :: l.drop (k + 1) := by
  obtain ⟨hk, rfl⟩ := List.getElem?_eq_some_iff.1 h
  exact List.drop_eq_getElem_cons hk
/- may a game be? -/
def risL (n : Int) : Int → List Int → Bool
  | _, [] => true
  | lo, x :: r => if x < lo ∨ n ≤ x then false else risL n (x + 1) r
def plB (x : Int) : Bool := x == 0 || x == 1
def okRows (n : Int) : List Int → List (List Int) → Bool
  | o :: os, r :: rs => plB o && (risL n 0 r && okRows n os rs)
  | _, _ => true
def mayG (g : GT) : Int := if 3000 < g.own.length then 7 else if g.nxt.length ≠ g.own.length then 1 else if okRows g.own.length g.own g.nxt = true then 0 else 1
def hvGo : Int → List (List Int) → Int
  | a, [] => a
  | a, l :: r => hvGo (wrap64 (a + l.length)) r
def hvG (g : GT) : Int := let n := hvGo g.own.length g.nxt; if 400 < n ∨ 200 < g.nxt.length then n else 0
end Go.Proofs.YtbppdalfcldodaaGreat.Gr
