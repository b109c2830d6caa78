/- Commands and modules, and how they lie in memory. -/
import Derived.Test.YtddbplgcglgloaaMLaws
import Derived.Test.YtddbplgcglgloaaMRef
namespace Go.Proofs.Ytddbplgcglgloaa
open Go.RowKit Ex
set_option linter.unusedSimpArgs false
set_option linter.unusedVariables false

structure ST where
  var : Int
  any : Bool
  e : T
structure CT where
  guard : T
  sets : List ST
structure MT where
  vars : List Dom.V
  ie : T
  is : T
  env : List CT
  sys : List CT
  asm : List T
  ens : List T
  prio : List T
/- an expression's three cells, a slice's one -/
structure E5 where
  op : Int
  n : Int
  A : Option Addr
  len : Nat
  cap : Nat
structure SL where
  A : Option Addr
  n : Nat
  c : Nat
def SL.v (s : SL) : Value := .slice s.A s.n s.c
def E5.v (x : E5) : Value := .agg #[.int .i64 x.op, .int .i64 x.n, .slice x.A x.len x.cap]
def EX (w : World) (B : Nat) (x : E5) (t : T) : Prop := ∃ d, RE w B d x.op x.n x.A x.len x.cap t
def ExAt (w : World) (B b o : Nat) (t : T) : Prop := ∃ x : E5, CellE w b o x.op x.n x.A x.len x.cap ∧ EX w B x t
def SetAt (w : World) (B b o : Nat) (s : ST) : Prop := w.cell? ⟨b, o, none⟩ = some (.int .i64 s.var) ∧ w.cell? ⟨b, o + 1, none⟩ = some (.bool s.any) ∧ ExAt w B b (o + 2) s.e
def Rows {α : Type} (P : World → Nat → Nat → Nat → α → Prop) (sz : Nat) (w : World) (B : Nat) (s : SL) (l : List α) : Prop :=
  l.length = s.n ∧ s.n ≤ s.c ∧ s.c ≤ maxLen ∧ (0 < s.n → ∃ b off, s.A = some ⟨b, off, none⟩ ∧ b < B ∧ ∀ k x, l[k]? = some x → P w B b (off + k * sz) x) ∧ (s.A = none → s.c = 0)
def CmdAt (w : World) (B b o : Nat) (c : CT) : Prop := ExAt w B b o c.guard ∧ ∃ s : SL, w.cell? ⟨b, o + 3, none⟩ = some s.v ∧ Rows SetAt 5 w B s c.sets
structure M8 where
  vars : SL
  ie : E5
  is : E5
  env : SL
  sys : SL
  asm : SL
  ens : SL
  prio : SL
def M8.cells (x : M8) : Array Value := #[x.vars.v, .int .i64 x.ie.op, .int .i64 x.ie.n, .slice x.ie.A x.ie.len x.ie.cap, .int .i64 x.is.op, .int .i64 x.is.n, .slice x.is.A x.is.len x.is.cap, x.env.v, x.sys.v, x.asm.v, x.ens.v, x.prio.v]
def OkVars (s : SL) (l : List Dom.V) : Prop := s.n ≤ maxLen ∧ s.n ≤ s.c ∧ s.c ≤ maxLen ∧ ∀ v ∈ l, v.nm.size ≤ maxLen
def RM (w : World) (B : Nat) (x : M8) (m : MT) : Prop := OkVars x.vars m.vars ∧ Dom.RV w B x.vars.A x.vars.n m.vars ∧ EX w B x.ie m.ie ∧ EX w B x.is m.is ∧ Rows CmdAt 4 w B x.env m.env ∧ Rows CmdAt 4 w B x.sys m.sys ∧ Rows ExAt 3 w B x.asm m.asm ∧ Rows ExAt 3 w B x.ens m.ens ∧ Rows ExAt 3 w B x.prio m.prio
structure C2 where
  guard : E5
  sets : SL
def C2.cells (x : C2) : Array Value := #[.int .i64 x.guard.op, .int .i64 x.guard.n, .slice x.guard.A x.guard.len x.guard.cap, x.sets.v]
def RC (w : World) (B : Nat) (x : C2) (c : CT) : Prop := EX w B x.guard c.guard ∧ Rows SetAt 5 w B x.sets c.sets

section
variable {w w' : World} {B B' : Nat}
theorem EX.keep {x : E5} {t : T} (h : EX w B x t) (hk : ∀ p : Addr, p.block < B → w'.cell? p = w.cell? p) : EX w' B x t := by
  obtain ⟨d, h⟩ := h
  exact ⟨d, RE.keep hk _ _ _ _ _ _ _ h⟩
theorem EX.below {x : E5} {t : T} (h : EX w B x t) (hb : Below B w w') : EX w' B x t := h.keep fun _ hp => hb.cell hp
theorem EX.more {x : E5} {t : T} (h : EX w B x t) (hB : B ≤ B') : EX w B' x t := by
  obtain ⟨d, h⟩ := h
  exact ⟨d, RE.more hB _ _ _ _ _ _ _ h⟩
theorem ExAt.keep {b o : Nat} {t : T} (hb : b < B) (h : ExAt w B b o t) (hk : ∀ p : Addr, p.block < B → w'.cell? p = w.cell? p) : ExAt w' B b o t := by
  obtain ⟨x, hc, he⟩ := h
  exact ⟨x, hc.keep (fun p hp => hk p (by omega)), he.keep hk⟩
theorem ExAt.more {b o : Nat} {t : T} (h : ExAt w B b o t) (hB : B ≤ B') : ExAt w B' b o t := by
  obtain ⟨x, hc, he⟩ := h
  exact ⟨x, hc, he.more hB⟩
theorem SetAt.keep {b o : Nat} {s : ST} (hb : b < B) (h : SetAt w B b o s) (hk : ∀ p : Addr, p.block < B → w'.cell? p = w.cell? p) : SetAt w' B b o s :=
  ⟨(hk _ (by exact hb)).trans h.1, (hk _ (by exact hb)).trans h.2.1, h.2.2.keep hb hk⟩
theorem SetAt.more {b o : Nat} {s : ST} (h : SetAt w B b o s) (hB : B ≤ B') : SetAt w B' b o s := ⟨h.1, h.2.1, h.2.2.more hB⟩
theorem Rows.keep {α : Type} {P : World → Nat → Nat → Nat → α → Prop} {sz : Nat} {s : SL} {l : List α} (h : Rows P sz w B s l) (hP : ∀ b o x, b < B → P w B b o x → P w' B b o x) : Rows P sz w' B s l :=
  ⟨h.1, h.2.1, h.2.2.1, fun hn => by
    obtain ⟨b, off, e, hb, hc⟩ := h.2.2.2.1 hn
    exact ⟨b, off, e, hb, fun k x hx => hP b _ x hb (hc k x hx)⟩, h.2.2.2.2⟩
theorem Rows.more {α : Type} {P : World → Nat → Nat → Nat → α → Prop} {sz : Nat} {s : SL} {l : List α} (h : Rows P sz w B s l) (hB : B ≤ B') (hP : ∀ b o x, P w B b o x → P w B' b o x) : Rows P sz w B' s l :=
  ⟨h.1, h.2.1, h.2.2.1, fun hn => by
    obtain ⟨b, off, e, hb, hc⟩ := h.2.2.2.1 hn
    exact ⟨b, off, e, by omega, fun k x hx => hP b _ x (hc k x hx)⟩, h.2.2.2.2⟩
theorem Rows.at_ {α : Type} {P : World → Nat → Nat → Nat → α → Prop} {sz : Nat} {s : SL} {l : List α} (h : Rows P sz w B s l) {k : Nat} (hk : k < s.n) : ∃ b off x, s.A = some ⟨b, off, none⟩ ∧ b < B ∧ l[k]? = some x ∧ P w B b (off + k * sz) x := by
  obtain ⟨b, off, e, hb, hc⟩ := h.2.2.2.1 (by omega)
  have hkl : k < l.length := by have := h.1; omega
  exact ⟨b, off, _, e, hb, List.getElem?_eq_getElem hkl, hc k _ (List.getElem?_eq_getElem hkl)⟩
theorem CmdAt.keep {b o : Nat} {c : CT} (hb : b < B) (h : CmdAt w B b o c) (hk : ∀ p : Addr, p.block < B → w'.cell? p = w.cell? p) : CmdAt w' B b o c := by
  obtain ⟨h1, s, h2, h3⟩ := h
  exact ⟨h1.keep hb hk, s, (hk _ (by exact hb)).trans h2, h3.keep (fun b o x hb hx => SetAt.keep hb hx hk)⟩
theorem CmdAt.more {b o : Nat} {c : CT} (h : CmdAt w B b o c) (hB : B ≤ B') : CmdAt w B' b o c := by
  obtain ⟨h1, s, h2, h3⟩ := h
  exact ⟨h1.more hB, s, h2, h3.more hB (fun b o x hx => SetAt.more hx hB)⟩
theorem RC.below {x : C2} {c : CT} (h : RC w B x c) (hb : Below B w w') : RC w' B x c :=
  ⟨h.1.below hb, h.2.keep (fun b o x h1 hx => SetAt.keep h1 hx (fun _ hp => hb.cell hp))⟩
theorem RC.more {x : C2} {c : CT} (h : RC w B x c) (hB : B ≤ B') : RC w B' x c := ⟨h.1.more hB, h.2.more hB (fun b o x hx => SetAt.more hx hB)⟩
theorem RM.below {x : M8} {m : MT} (h : RM w B x m) (hb : Below B w w') : RM w' B x m := by
  have hk : ∀ p : Addr, p.block < B → w'.cell? p = w.cell? p := fun _ hp => hb.cell hp
  obtain ⟨h0, h1, h2, h3, h4, h5, h6, h7, h8⟩ := h
  exact ⟨h0, h1.below hb, h2.keep hk, h3.keep hk, h4.keep (fun b o x h1 hx => CmdAt.keep h1 hx hk), h5.keep (fun b o x h1 hx => CmdAt.keep h1 hx hk), h6.keep (fun b o x h1 hx => ExAt.keep h1 hx hk), h7.keep (fun b o x h1 hx => ExAt.keep h1 hx hk), h8.keep (fun b o x h1 hx => ExAt.keep h1 hx hk)⟩
theorem RM.more {x : M8} {m : MT} (h : RM w B x m) (hB : B ≤ B') : RM w B' x m := by
  obtain ⟨h0, h1, h2, h3, h4, h5, h6, h7, h8⟩ := h
  exact ⟨h0, h1.more hB, h2.more hB, h3.more hB, h4.more hB (fun b o x hx => CmdAt.more hx hB), h5.more hB (fun b o x hx => CmdAt.more hx hB), h6.more hB (fun b o x hx => ExAt.more hx hB), h7.more hB (fun b o x hx => ExAt.more hx hB), h8.more hB (fun b o x hx => ExAt.more hx hB)⟩
end
end Go.Proofs.Ytddbplgcglgloaa
