/- Games, rows of numbers, of marks and of rows, and how they lie in memory. -/
import Derived.Test.YtnecihnhlkaajaaProg
import Derived.WalkKit
import Derived.Deep.OwnRows
import Derived.Deep.AppendLies
namespace Go.Proofs.Ytnecihnhlkaajaa.Gr
open Go.RowKit
set_option linter.unusedVariables false

theorem hide {p : Prop} (h : p) : Hid p := h
theorem ret_bool {a b : Bool} (h : a = b) : Ending.returned (.bool a) = .returned (.bool b) := by rw [h]
theorem ret_int {k : IntKind} {a b : Int} (h : a = b) : Ending.returned (.int k a) = .returned (.int k b) := by rw [h]

structure SL where
  A : Option Addr
  n : Nat
  c : Nat
def SL.v (s : SL) : Value := .slice s.A s.n s.c
def Rows {α : Type} (P : World → Nat → Nat → Nat → α → Prop) (w : World) (B : Nat) (s : SL) (l : List α) : Prop :=
  l.length = s.n ∧ s.n ≤ s.c ∧ s.c ≤ maxLen ∧ (0 < s.n → ∃ b off, s.A = some ⟨b, off, none⟩ ∧ b < B ∧ ∀ k x, l[k]? = some x → P w B b (off + k) x) ∧ (s.A = none → s.c = 0)
def IntAt (w : World) (B b o : Nat) (x : Int) : Prop := w.cell? ⟨b, o, none⟩ = some (.int .i64 x)
def BoolAt (w : World) (B b o : Nat) (x : Bool) : Prop := w.cell? ⟨b, o, none⟩ = some (.bool x)
abbrev RI (w : World) (B : Nat) (s : SL) (l : List Int) : Prop := Rows IntAt w B s l
abbrev RB (w : World) (B : Nat) (s : SL) (l : List Bool) : Prop := Rows BoolAt w B s l
def RowAt (w : World) (B b o : Nat) (l : List Int) : Prop := ∃ s : SL, w.cell? ⟨b, o, none⟩ = some s.v ∧ RI w B s l
abbrev RR (w : World) (B : Nat) (s : SL) (l : List (List Int)) : Prop := Rows RowAt w B s l
/- a game -/
structure GT where
  own : List Int
  nxt : List (List Int)
structure RG (w : World) (B : Nat) (O N : SL) (g : GT) : Prop where
  own : RI w B O g.own
  nxt : RR w B N g.nxt
def Box2 (w : World) (b : Nat) (O N : SL) : Prop := w.cell? ⟨b, 0, none⟩ = some O.v ∧ w.cell? ⟨b, 1, none⟩ = some N.v

section
variable {α : Type} {P : World → Nat → Nat → Nat → α → Prop} {w w' : World} {B B' : Nat} {s O N : SL} {l : List α} {g : GT}
theorem Rows.len (h : Rows P w B s l) : l.length = s.n := h.1
theorem Rows.keep (h : Rows P w B s l) (hP : ∀ b o x, b < B → P w B b o x → P w' B b o x) : Rows P w' B s l :=
  ⟨h.1, h.2.1, h.2.2.1, fun hn => by
    obtain ⟨b, off, e, hb, hc⟩ := h.2.2.2.1 hn
    exact ⟨b, off, e, hb, fun k x hx => hP b _ x hb (hc k x hx)⟩, h.2.2.2.2⟩
theorem Rows.moreP (h : Rows P w B s l) (hB : B ≤ B') (hP : ∀ b o x, P w B b o x → P w B' b o x) : Rows P w B' s l :=
  ⟨h.1, h.2.1, h.2.2.1, fun hn => by
    obtain ⟨b, off, e, hb, hc⟩ := h.2.2.2.1 hn
    exact ⟨b, off, e, by omega, fun k x hx => hP b _ x (hc k x hx)⟩, h.2.2.2.2⟩
theorem Rows.at_ (h : Rows P w B s l) {k : Nat} (hk : k < s.n) : ∃ b off x, s.A = some ⟨b, off, none⟩ ∧ b < B ∧ l[k]? = some x ∧ P w B b (off + k) x := by
  obtain ⟨b, off, e, hb, hc⟩ := h.2.2.2.1 (by omega)
  have hkl : k < l.length := by have := h.1; omega
  exact ⟨b, off, _, e, hb, List.getElem?_eq_getElem hkl, hc k _ (List.getElem?_eq_getElem hkl)⟩
theorem RI.below {l : List Int} (h : RI w B s l) (hb : Below B w w') : RI w' B s l := h.keep fun b o x h1 hx => (hb.cell (by exact h1)).trans hx
theorem RB.below {l : List Bool} (h : RB w B s l) (hb : Below B w w') : RB w' B s l := h.keep fun b o x h1 hx => (hb.cell (by exact h1)).trans hx
theorem RI.more {l : List Int} (h : RI w B s l) (hB : B ≤ B') : RI w B' s l := h.moreP hB fun _ _ _ hx => hx
theorem RB.more {l : List Bool} (h : RB w B s l) (hB : B ≤ B') : RB w B' s l := h.moreP hB fun _ _ _ hx => hx
theorem RowAt.below {b o : Nat} {l : List Int} (h : RowAt w B b o l) (hb : Below B w w') (h1 : b < B) : RowAt w' B b o l := by
  obtain ⟨s, hc, hr⟩ := h
  exact ⟨s, (hb.cell (by exact h1)).trans hc, hr.below hb⟩
theorem RR.below {l : List (List Int)} (h : RR w B s l) (hb : Below B w w') : RR w' B s l := h.keep fun b o x h1 hx => hx.below hb h1
theorem RR.more {l : List (List Int)} (h : RR w B s l) (hB : B ≤ B') : RR w B' s l := h.moreP hB fun _ _ _ ⟨s, hc, hr⟩ => ⟨s, hc, hr.more hB⟩
theorem RG.below (h : RG w B O N g) (hb : Below B w w') : RG w' B O N g := ⟨h.own.below hb, h.nxt.below hb⟩
theorem RG.more (h : RG w B O N g) (hB : B ≤ B') : RG w B' O N g := ⟨h.own.more hB, h.nxt.more hB⟩
theorem Box2.below {b : Nat} (h : Box2 w b O N) (hb : Below B w w') (hB : b < B) : Box2 w' b O N := ⟨(hb.cell (by exact hB)).trans h.1, (hb.cell (by exact hB)).trans h.2⟩
theorem RI.at_ {l : List Int} {A : Option Addr} {n c k : Nat} (h : RI w B ⟨A, n, c⟩ l) (hk : k < n) : ∃ b off x, A = some ⟨b, off, none⟩ ∧ b < B ∧ l[k]? = some x ∧ w.cell? ⟨b, off + k, none⟩ = some (.int .i64 x) := Rows.at_ h hk
theorem RB.at_ {l : List Bool} {A : Option Addr} {n c k : Nat} (h : RB w B ⟨A, n, c⟩ l) (hk : k < n) : ∃ b off x, A = some ⟨b, off, none⟩ ∧ b < B ∧ l[k]? = some x ∧ w.cell? ⟨b, off + k, none⟩ = some (.bool x) := Rows.at_ h hk
theorem RR.at_ {l : List (List Int)} {A : Option Addr} {n c k : Nat} (h : RR w B ⟨A, n, c⟩ l) (hk : k < n) : ∃ b off x A2 n2 c2, A = some ⟨b, off, none⟩ ∧ b < B ∧ l[k]? = some x ∧ w.cell? ⟨b, off + k, none⟩ = some (.slice A2 n2 c2) ∧ RI w B ⟨A2, n2, c2⟩ x := by
  obtain ⟨b, off, x, h1, h2, h3, ⟨A2, n2, c2⟩, h4, h5⟩ := Rows.at_ h hk
  exact ⟨b, off, x, A2, n2, c2, h1, h2, h3, h4, h5⟩
end
theorem box_new (w : World) (OA NA : Option Addr) (on oc nn nc : Nat) (t : TypeId) : Box2 (w.alloc (.cells #[.slice OA on oc, .slice NA nn nc] t)) w.heap.size ⟨OA, on, oc⟩ ⟨NA, nn, nc⟩ := by
  unfold Box2
  simp [go_sem, SL.v]
theorem drop_at {α : Type} {l : List α} {k : Nat} {v : α} (h : l[k]? = some v) : l.drop k = v :: l.drop (k + 1) := by
  obtain ⟨hk, rfl⟩ := List.getElem?_eq_some_iff.1 h
  exact List.drop_eq_getElem_cons hk
theorem bcell {W w1 : World} (hb : Below W.heap.size W w1) : (∀ b o, b < W.heap.size → w1.cell? ⟨b, o, none⟩ = W.cell? ⟨b, o, none⟩) ∧ (∀ b o, b < W.heap.size → w1.frozen? ⟨b, o, none⟩ = W.frozen? ⟨b, o, none⟩) :=
  ⟨fun b o h => hb.cell (p := ⟨b, o, none⟩) h, fun b o h => hb.frozen (p := ⟨b, o, none⟩) h⟩

/- may a game be? -/
def risL (n : Int) : Int → List Int → Bool
  | _, [] => true
  | lo, x :: r => if x < lo ∨ n ≤ x then false else risL n (x + 1) r
def plB (x : Int) : Bool := x == 0 || x == 1
def okRows (n : Int) : List Int → List (List Int) → Bool
  | o :: os, r :: rs => plB o && (risL n 0 r && okRows n os rs)
  | _, _ => true
def mayG (g : GT) : Int := if 3000 < g.own.length then 7 else if g.nxt.length ≠ g.own.length then 1 else if okRows g.own.length g.own g.nxt = true then 0 else 1
def hvGo : Int → List (List Int) → Int
  | a, [] => a
  | a, l :: r => hvGo (wrap64 (a + l.length)) r
def hvG (g : GT) : Int := let n := hvGo g.own.length g.nxt; if 400 < n ∨ 200 < g.nxt.length then n else 0
theorem may_facts {g : GT} (h : mayG g = 0) : g.own.length ≤ 3000 ∧ g.nxt.length = g.own.length ∧ okRows g.own.length g.own g.nxt = true := by
  unfold mayG at h
  split at h
  · omega
  · split at h
    · omega
    · split at h
      · exact ⟨by omega, by omega, by assumption⟩
      · omega
theorem ris_le {n : Int} : ∀ {lo : Int} {l : List Int}, 0 ≤ lo → lo ≤ n → risL n lo l = true → (l.length : Int) ≤ n - lo
  | lo, [], _, h1, _ => by simp; omega
  | lo, x :: r, h0, h1, h => by
    rw [risL] at h
    split at h
    · cases h
    · have := ris_le (n := n) (lo := x + 1) (l := r) (by omega) (by omega) h
      simp only [List.length_cons]; omega
theorem ris_mem {n : Int} : ∀ {lo : Int} {l : List Int}, risL n lo l = true → ∀ x ∈ l, lo ≤ x ∧ x < n
  | lo, [], _, x, hx => by simp at hx
  | lo, y :: r, h, x, hx => by
    rw [risL] at h
    split at h
    · cases h
    · rcases List.mem_cons.1 hx with rfl | hx
      · omega
      · have := ris_mem h x hx; omega
theorem okRows_at {n : Int} : ∀ {os : List Int} {rs : List (List Int)} {k : Nat} {r : List Int}, os.length = rs.length → okRows n os rs = true → rs[k]? = some r → risL n 0 r = true
  | [], rs, k, r, hl, _, h => by cases rs with
    | nil => simp at h
    | cons => simp at hl
  | o :: os, [], k, r, hl, _, h => by simp at h
  | o :: os, q :: rs, 0, r, hl, h, hk => by
    rw [okRows] at h; simp only [Bool.and_eq_true] at h
    simp at hk; subst hk; exact h.2.1
  | o :: os, q :: rs, k + 1, r, hl, h, hk => by
    rw [okRows] at h; simp only [Bool.and_eq_true] at h
    exact okRows_at (by simpa using hl) h.2.2 (by simpa using hk)
theorem may_row {g : GT} (h : mayG g = 0) {k : Nat} {r : List Int} (hk : g.nxt[k]? = some r) : risL g.own.length 0 r = true ∧ r.length ≤ 3000 ∧ ∀ x ∈ r, 0 ≤ x ∧ x < g.own.length := by
  obtain ⟨h1, h2, h3⟩ := may_facts h
  have h4 := okRows_at h2.symm h3 hk
  have h5 := ris_le (by omega) (by omega) h4
  exact ⟨h4, by omega, ris_mem h4⟩
end Go.Proofs.Ytnecihnhlkaajaa.Gr
