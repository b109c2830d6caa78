/- Commands and modules, and how they lie in memory. Commands and modules as data: what may be, and when two are the same. The walk of the reference's zero and MayCommand. The walk of the reference's MayCommand. The walk of the reference's MayModule. -/
import Derived.Test.YtbppdalfcldodaaGreatGReads
import Derived.Test.YtbppdalfcldodaaGreatGNum
import Derived.Test.YtbppdalfcldodaaGreatGSort
namespace Go.Proofs.YtbppdalfcldodaaGreat
open Go.RowKit Ex
set_option linter.unusedSimpArgs false
set_option linter.unusedVariables false

structure ST where
  var : Int
  any : Bool
  e : T
structure CT where
  guard : T
  sets : List ST
structure MT where
  vars : List Dom.V
  ie : T
  is : T
  env : List CT
  sys : List CT
  asm : List T
  ens : List T
  prio : List T
/- an expression's three cells, a slice's one -/
structure E5 where
  op : Int
  n : Int
  A : Option Addr
  len : Nat
  cap : Nat
structure SL where
  A : Option Addr
  n : Nat
  c : Nat
def SL.v (s : SL) : Value := .slice s.A s.n s.c
def E5.v (x : E5) : Value := .agg #[.int .i64 x.op, .int .i64 x.n, .slice x.A x.len x.cap]
def EX (w : World) (B : Nat) (x : E5) (t : T) : Prop := ∃ d, RE w B d x.op x.n x.A x.len x.cap t
def ExAt (w : World) (B b o : Nat) (t : T) : Prop := ∃ x : E5, CellE w b o x.op x.n x.A x.len x.cap ∧ EX w B x t
def SetAt (w : World) (B b o : Nat) (s : ST) : Prop := w.cell? ⟨b, o, none⟩ = some (.int .i64 s.var) ∧ w.cell? ⟨b, o + 1, none⟩ = some (.bool s.any) ∧ ExAt w B b (o + 2) s.e
def Rows {α : Type} (P : World → Nat → Nat → Nat → α → Prop) (sz : Nat) (w : World) (B : Nat) (s : SL) (l : List α) : Prop :=
  l.length = s.n ∧ s.n ≤ s.c ∧ s.c ≤ maxLen ∧ (0 < s.n → ∃ b off, s.A = some ⟨b, off, none⟩ ∧ b < B ∧ ∀ k x, l[k]? = some x → P w B b (off + k * sz) x) ∧ (s.A = none → s.c = 0)
def CmdAt (w : World) (B b o : Nat) (c : CT) : Prop := ExAt w B b o c.guard ∧ ∃ s : SL, w.cell? ⟨b, o + 3, none⟩ = some s.v ∧ Rows SetAt 5 w B s c.sets
structure M8 where
  vars : SL
  ie : E5
  is : E5
  env : SL
  sys : SL
  asm : SL
  ens : SL
  prio : SL
def M8.cells (x : M8) : Array Value := #[x.vars.v, .int .i64 x.ie.op, .int .i64 x.ie.n, .slice x.ie.A x.ie.len x.ie.cap, .int .i64 x.is.op, .int .i64 x.is.n, .slice x.is.A x.is.len x.is.cap, x.env.v, x.sys.v, x.asm.v, x.ens.v, x.prio.v]
def OkVars (s : SL) (l : List Dom.V) : Prop := s.n ≤ maxLen ∧ s.n ≤ s.c ∧ s.c ≤ maxLen ∧ ∀ v ∈ l, v.nm.size ≤ maxLen
def RM (w : World) (B : Nat) (x : M8) (m : MT) : Prop := OkVars x.vars m.vars ∧ Dom.RV w B x.vars.A x.vars.n m.vars ∧ EX w B x.ie m.ie ∧ EX w B x.is m.is ∧ Rows CmdAt 4 w B x.env m.env ∧ Rows CmdAt 4 w B x.sys m.sys ∧ Rows ExAt 3 w B x.asm m.asm ∧ Rows ExAt 3 w B x.ens m.ens ∧ Rows ExAt 3 w B x.prio m.prio
structure C2 where
  guard : E5
  sets : SL
def C2.cells (x : C2) : Array Value := #[.int .i64 x.guard.op, .int .i64 x.guard.n, .slice x.guard.A x.guard.len x.guard.cap, x.sets.v]
def RC (w : World) (B : Nat) (x : C2) (c : CT) : Prop := EX w B x.guard c.guard ∧ Rows SetAt 5 w B x.sets c.sets

section
variable {w w' : World} {B B' : Nat}
theorem EX.keep {x : E5} {t : T} (h : EX w B x t) (hk : ∀ p : Addr, p.block < B → w'.cell? p = w.cell? p) : EX w' B x t := by
  obtain ⟨d, h⟩ := h
  exact ⟨d, RE.keep hk _ _ _ _ _ _ _ h⟩
theorem EX.below {x : E5} {t : T} (h : EX w B x t) (hb : Below B w w') : EX w' B x t := h.keep fun _ hp => hb.cell hp
theorem EX.more {x : E5} {t : T} (h : EX w B x t) (hB : B ≤ B') : EX w B' x t := by
  obtain ⟨d, h⟩ := h
  exact ⟨d, RE.more hB _ _ _ _ _ _ _ h⟩
theorem ExAt.keep {b o : Nat} {t : T} (hb : b < B) (h : ExAt w B b o t) (hk : ∀ p : Addr, p.block < B → w'.cell? p = w.cell? p) : ExAt w' B b o t := by
  obtain ⟨x, hc, he⟩ := h
  exact ⟨x, hc.keep (fun p hp => hk p (by omega)), he.keep hk⟩
theorem ExAt.more {b o : Nat} {t : T} (h : ExAt w B b o t) (hB : B ≤ B') : ExAt w B' b o t := by
  obtain ⟨x, hc, he⟩ := h
  exact ⟨x, hc, he.more hB⟩
theorem SetAt.keep {b o : Nat} {s : ST} (hb : b < B) (h : SetAt w B b o s) (hk : ∀ p : Addr, p.block < B → w'.cell? p = w.cell? p) : SetAt w' B b o s :=
  ⟨(hk _ (by exact hb)).trans h.1, (hk _ (by exact hb)).trans h.2.1, h.2.2.keep hb hk⟩
theorem SetAt.more {b o : Nat} {s : ST} (h : SetAt w B b o s) (hB : B ≤ B') : SetAt w B' b o s := ⟨h.1, h.2.1, h.2.2.more hB⟩
theorem Rows.keep {α : Type} {P : World → Nat → Nat → Nat → α → Prop} {sz : Nat} {s : SL} {l : List α} (h : Rows P sz w B s l) (hP : ∀ b o x, b < B → P w B b o x → P w' B b o x) : Rows P sz w' B s l :=
  ⟨h.1, h.2.1, h.2.2.1, fun hn => by
    obtain ⟨b, off, e, hb, hc⟩ := h.2.2.2.1 hn
    exact ⟨b, off, e, hb, fun k x hx => hP b _ x hb (hc k x hx)⟩, h.2.2.2.2⟩
theorem Rows.more {α : Type} {P : World → Nat → Nat → Nat → α → Prop} {sz : Nat} {s : SL} {l : List α} (h : Rows P sz w B s l) (hB : B ≤ B') (hP : ∀ b o x, P w B b o x → P w B' b o x) : Rows P sz w B' s l :=
  ⟨h.1, h.2.1, h.2.2.1, fun hn => by
    obtain ⟨b, off, e, hb, hc⟩ := h.2.2.2.1 hn
    exact ⟨b, off, e, by omega, fun k x hx => hP b _ x (hc k x hx)⟩, h.2.2.2.2⟩
theorem Rows.at_ {α : Type} {P : World → Nat → Nat → Nat → α → Prop} {sz : Nat} {s : SL} {l : List α} (h : Rows P sz w B s l) {k : Nat} (hk : k < s.n) : ∃ b off x, s.A = some ⟨b, off, none⟩ ∧ b < B ∧ l[k]? = some x ∧ P w B b (off + k * sz) x := by
  obtain ⟨b, off, e, hb, hc⟩ := h.2.2.2.1 (by omega)
  have hkl : k < l.length := by have := h.1; omega
  exact ⟨b, off, _, e, hb, List.getElem?_eq_getElem hkl, hc k _ (List.getElem?_eq_getElem hkl)⟩
theorem CmdAt.keep {b o : Nat} {c : CT} (hb : b < B) (h : CmdAt w B b o c) (hk : ∀ p : Addr, p.block < B → w'.cell? p = w.cell? p) : CmdAt w' B b o c := by
  obtain ⟨h1, s, h2, h3⟩ := h
  exact ⟨h1.keep hb hk, s, (hk _ (by exact hb)).trans h2, h3.keep (fun b o x hb hx => SetAt.keep hb hx hk)⟩
theorem CmdAt.more {b o : Nat} {c : CT} (h : CmdAt w B b o c) (hB : B ≤ B') : CmdAt w B' b o c := by
  obtain ⟨h1, s, h2, h3⟩ := h
  exact ⟨h1.more hB, s, h2, h3.more hB (fun b o x hx => SetAt.more hx hB)⟩
theorem RC.below {x : C2} {c : CT} (h : RC w B x c) (hb : Below B w w') : RC w' B x c :=
  ⟨h.1.below hb, h.2.keep (fun b o x h1 hx => SetAt.keep h1 hx (fun _ hp => hb.cell hp))⟩
theorem RC.more {x : C2} {c : CT} (h : RC w B x c) (hB : B ≤ B') : RC w B' x c := ⟨h.1.more hB, h.2.more hB (fun b o x hx => SetAt.more hx hB)⟩
theorem RM.below {x : M8} {m : MT} (h : RM w B x m) (hb : Below B w w') : RM w' B x m := by
  have hk : ∀ p : Addr, p.block < B → w'.cell? p = w.cell? p := fun _ hp => hb.cell hp
  obtain ⟨h0, h1, h2, h3, h4, h5, h6, h7, h8⟩ := h
  exact ⟨h0, h1.below hb, h2.keep hk, h3.keep hk, h4.keep (fun b o x h1 hx => CmdAt.keep h1 hx hk), h5.keep (fun b o x h1 hx => CmdAt.keep h1 hx hk), h6.keep (fun b o x h1 hx => ExAt.keep h1 hx hk), h7.keep (fun b o x h1 hx => ExAt.keep h1 hx hk), h8.keep (fun b o x h1 hx => ExAt.keep h1 hx hk)⟩
theorem RM.more {x : M8} {m : MT} (h : RM w B x m) (hB : B ≤ B') : RM w B' x m := by
  obtain ⟨h0, h1, h2, h3, h4, h5, h6, h7, h8⟩ := h
  exact ⟨h0, h1.more hB, h2.more hB, h3.more hB, h4.more hB (fun b o x hx => CmdAt.more hx hB), h5.more hB (fun b o x hx => CmdAt.more hx hB), h6.more hB (fun b o x hx => ExAt.more hx hB), h7.more hB (fun b o x hx => ExAt.more hx hB), h8.more hB (fun b o x hx => ExAt.more hx hB)⟩
end
end Go.Proofs.YtbppdalfcldodaaGreat
namespace Go.Proofs.YtbppdalfcldodaaGreat
open Go.RowKit Ex
set_option linter.unusedSimpArgs false
set_option linter.unusedVariables false

def zeroE (t : T) : Bool := (t.op == 0) && (t.n == 0) && (t.kids.length == 0)
def srtAt (l : List Dom.V) (x : Int) : Int := ((l[x.toNat]?).map Dom.V.srt).getD 0
def setGo (l : List Dom.V) (env : Bool) (seen : List Int) : List ST → Int
  | [] => 0
  | s :: r => if s.var < 0 ∨ (l.length : Int) ≤ s.var ∨ envAt l s.var ≠ env ∨ s.var ∈ seen then 3
      else if s.any = true then (if zeroE s.e = true then setGo l env (s.var :: seen) r else 1)
      else if needE l s.e (srtAt l s.var) true (!env) false = 0 then setGo l env (s.var :: seen) r else needE l s.e (srtAt l s.var) true (!env) false
def cmdE (l : List Dom.V) (c : CT) (env : Bool) : Int :=
  if Dom.mayL l = 0 then (if needE l c.guard 1 true (!env) false = 0 then (if 6 < c.sets.length then 7 else setGo l env [] c.sets) else needE l c.guard 1 true (!env) false) else Dom.mayL l
def cmdsE (l : List Dom.V) (env : Bool) : List CT → Int
  | [] => 0
  | c :: r => if cmdE l c env = 0 then cmdsE l env r else cmdE l c env
def goalsE (l : List Dom.V) : List T → Int
  | [] => 0
  | t :: r => if needE l t 1 true false false = 0 then goalsE l r else needE l t 1 true false false
def firstE : List Int → Int
  | [] => 0
  | x :: r => if x = 0 then firstE r else x
def sizesE (m : MT) : Int := if 12 < m.env.length ∨ 12 < m.sys.length ∨ 4 < m.asm.length ∨ 4 < m.ens.length ∨ 6 < m.prio.length then 7 else 0
def bothE (m : MT) : Int := if 0 < m.prio.length ∧ 0 < m.asm.length + m.ens.length then 1 else 0
def modE (m : MT) : Int := firstE [Dom.mayL m.vars, needE m.vars m.ie 1 false false false, needE m.vars m.is 1 true false false, sizesE m, cmdsE m.vars true m.env, cmdsE m.vars false m.sys, bothE m, goalsE m.vars m.asm, goalsE m.vars m.ens, goalsE m.vars m.prio]
def varsS : List Dom.V → List Dom.V → Bool
  | [], [] => true
  | a :: r, b :: s => (a.nm.data == b.nm.data) && (a.env == b.env) && (a.srt == b.srt) && (a.lo == b.lo) && (a.hi == b.hi) && varsS r s
  | [], _ :: _ => false
  | _ :: _, [] => false
def rowS : List T → List T → Bool
  | [], [] => true
  | a :: r, b :: s => sameE a b && rowS r s
  | [], _ :: _ => false
  | _ :: _, [] => false
def setsS : List ST → List ST → Bool
  | [], [] => true
  | a :: r, b :: s => (a.var == b.var) && (a.any == b.any) && sameE a.e b.e && setsS r s
  | [], _ :: _ => false
  | _ :: _, [] => false
def cmdsS : List CT → List CT → Bool
  | [], [] => true
  | a :: r, b :: s => sameE a.guard b.guard && setsS a.sets b.sets && cmdsS r s
  | [], _ :: _ => false
  | _ :: _, [] => false
def modS (a b : MT) : Bool := varsS a.vars b.vars && sameE a.ie b.ie && sameE a.is b.is && cmdsS a.env b.env && cmdsS a.sys b.sys && rowS a.asm b.asm && rowS a.ens b.ens && rowS a.prio b.prio
end Go.Proofs.YtbppdalfcldodaaGreat
namespace Go.Proofs.YtbppdalfcldodaaGreat
open Go.RowKit Ex
open Go.Sort (grow)
set_option linter.unusedSimpArgs false
set_option linter.unusedVariables false

set_option maxHeartbeats 400000 in
theorem zero_any (B : Nat) (x : E5) (t : T) (w : World) (hex : EX w B x t) :
    Calls Tryz.prog 69 #[x.v] w fun e w' => e = .returned (.bool (zeroE t)) ∧ Below w.heap.size w w' := by
  obtain ⟨d, hre⟩ := hex
  obtain ⟨op, n, A, len, cap⟩ := x
  cases d with
  | zero => exact absurd hre id
  | succ d =>
    obtain ⟨h1, h2, h3, h4, h5, _⟩ := hre
    simp only at h1 h2 h3 h4 h5
    unfold maxLen at h5
    have hz : Hid (zeroE t = ((op == 0) && (n == 0) && (len == 0))) := hide (by unfold zeroE; rw [h1, h2, h3])
    obtain ⟨f0, f1, f2⟩ := box_new w op n A len cap 25
    have Hb := hide ((Below.refl w.heap.size w).alloc (Nat.le_refl _) (.cells #[.int .i64 op, .int .i64 n, .slice A len cap] 25))
    clear h1 h2 h3
    by_cases a1 : op = 0
    · have b1 : (op == 0) = true := by simp [a1]
      by_cases a2 : n = 0
      · have b2 : (n == 0) = true := by simp [a2]
        by_cases a3 : len = 0
        · have b3 : ((len : Int) == 0) = true := by simp [a3]
          have b4 : (len == 0) = true := by simp [a3]
          have hf : Hid (zeroE t = true) := hide (by rw [hz.out, b1, b2, b4]; rfl)
          clear a1 a2 a3 hz
          unfold E5.v
          go_enter Tryz.func69, Tryz.ntmps69
          go_wp2_with fail
          go_ret
          exact ⟨ret_bool hf.out.symm, Hb.out⟩
        · have b3 : ((len : Int) == 0) = false := by simp; omega
          have b4 : (len == 0) = false := by simp [a3]
          have hf : Hid (zeroE t = false) := hide (by rw [hz.out, b1, b2, b4]; rfl)
          clear a1 a2 a3 hz
          unfold E5.v
          go_enter Tryz.func69, Tryz.ntmps69
          go_wp2_with fail
          go_ret
          exact ⟨ret_bool hf.out.symm, Hb.out⟩
      · have b2 : (n == 0) = false := by simp [a2]
        have hf : Hid (zeroE t = false) := hide (by rw [hz.out, b1, b2]; rfl)
        clear a1 a2 hz
        unfold E5.v
        go_enter Tryz.func69, Tryz.ntmps69
        go_wp2_with fail
        go_ret
        exact ⟨ret_bool hf.out.symm, Hb.out⟩
    · have b1 : (op == 0) = false := by simp [a1]
      have hf : Hid (zeroE t = false) := hide (by rw [hz.out, b1]; rfl)
      clear a1 hz
      unfold E5.v
      go_enter Tryz.func69, Tryz.ntmps69
      go_wp2_with fail
      go_ret
      exact ⟨ret_bool hf.out.symm, Hb.out⟩

def seenV (seen : List Int) : Nat → Value := fun i => .bool (decide ((i : Int) ∈ seen))
theorem seen_new (w : World) : (w.alloc (.cells #[.bool false, .bool false, .bool false, .bool false, .bool false, .bool false] 109)).rowIs w.heap.size 109 6 (seenV []) :=
  World.rowIs_alloc w _ 109 _ (fun i hi => by
    have h : i = 0 ∨ i = 1 ∨ i = 2 ∨ i = 3 ∨ i = 4 ∨ i = 5 := by simp at hi; omega
    rcases h with rfl | rfl | rfl | rfl | rfl | rfl <;> rfl)
theorem seen_set {w : World} {g k : Nat} {seen : List Int} (h : w.rowIs g 109 6 (seenV seen)) : (w.setCell ⟨g, k, none⟩ (.bool true)).rowIs g 109 6 (seenV ((k : Int) :: seen)) :=
  (h.set k (.bool true)).congr (fun i hi => by
    by_cases e : i = k
    · rw [if_pos e]; simp [seenV, e]
    · rw [if_neg e]
      have : ¬ (i : Int) = (k : Int) := by omega
      simp [seenV, this])
theorem q_rneeds5 {W : World} {B : Nat} {Av : Option Addr} {nv cv : Nat} {lv : List Dom.V} {op n : Int} {A : Option Addr} {len cap : Nat} {t : T} {want : Int} {now env sys : Bool} {dd : Nat} {os : Array Obj} (hB : B ≤ W.heap.size) (Ho : Hid (OkVars ⟨Av, nv, cv⟩ lv)) (Hrv : Hid (Dom.RV W B Av nv lv)) (Hre : Hid (EX W B ⟨op, n, A, len, cap⟩ t)) : Calls Tryz.prog 31 #[.slice Av nv cv, .agg #[.int .i64 op, .int .i64 n, .slice A len cap], .int .i64 want, .bool now, .bool env, .bool sys] (grow (redrawn W dd) os) fun e w'' => e = .returned (.int .i64 (needE lv t want now env sys)) ∧ ∃ p : Regrown, w'' = grow (redrawn W p.d) p.os := by
  obtain ⟨d, hre⟩ := Hre.out
  exact Calls.regrown_of (rneeds_any B Av nv cv lv d op n A len cap t want now env sys _ Ho.out.1 Ho.out.2.1 Ho.out.2.2.1 (Nat.le_trans hB (below_regrown W dd os).size) (hre.below ((below_regrown W dd os).mono hB)) (Hrv.out.below ((below_regrown W dd os).mono hB)) Ho.out.2.2.2)
end Go.Proofs.YtbppdalfcldodaaGreat
namespace Go.Proofs.YtbppdalfcldodaaGreat
open Go.RowKit Ex
open Go.Sort (grow)
set_option linter.unusedSimpArgs false
set_option linter.unusedVariables false

theorem box4 (w : World) (go gn : Int) (gA : Option Addr) (gl gc : Nat) (sA : Option Addr) (sn sc : Nat) : Box3 (w.alloc (.cells #[.int .i64 go, .int .i64 gn, .slice gA gl gc, .slice sA sn sc] 71)) w.heap.size go gn gA gl gc ∧ (w.alloc (.cells #[.int .i64 go, .int .i64 gn, .slice gA gl gc, .slice sA sn sc] 71)).cell? ⟨w.heap.size, 3, none⟩ = some (.slice sA sn sc) := by
  unfold Box3
  simp [go_sem]
def Box5 (w : World) (b : Nat) (z : Int) (p : Bool) (op n : Int) (A : Option Addr) (len cap : Nat) : Prop := w.cell? ⟨b, 0, none⟩ = some (.int .i64 z) ∧ w.cell? ⟨b, 1, none⟩ = some (.bool p) ∧ w.cell? ⟨b, 2, none⟩ = some (.int .i64 op) ∧ w.cell? ⟨b, 3, none⟩ = some (.int .i64 n) ∧ w.cell? ⟨b, 4, none⟩ = some (.slice A len cap)
theorem box5_new (w : World) (z : Int) (p : Bool) (op n : Int) (A : Option Addr) (len cap : Nat) : Box5 (w.alloc (.cells #[.int .i64 z, .bool p, .int .i64 op, .int .i64 n, .slice A len cap] 111)) w.heap.size z p op n A len cap := by
  unfold Box5
  simp [go_sem]
theorem Box5.far {w w' : World} {b : Nat} {z : Int} {p : Bool} {op n : Int} {A : Option Addr} {len cap : Nat} (h : Box5 w b z p op n A len cap) (hk : ∀ q : Addr, q.block = b → w'.cell? q = w.cell? q) : Box5 w' b z p op n A len cap :=
  ⟨(hk _ rfl).trans h.1, (hk _ rfl).trans h.2.1, (hk _ rfl).trans h.2.2.1, (hk _ rfl).trans h.2.2.2.1, (hk _ rfl).trans h.2.2.2.2⟩
theorem set_drop {l : List ST} {k : Nat} {s : ST} (h : l[k]? = some s) : l.drop k = s :: l.drop (k + 1) := drop_at h

set_option maxRecDepth 100000 in
set_option maxHeartbeats 8000000 in
theorem rcmd_any (B : Nat) (Av : Option Addr) (nv cv : Nat) (lv : List Dom.V) (x : C2) (c : CT) (env : Bool) (w : World) (ho : OkVars ⟨Av, nv, cv⟩ lv) (hB : B ≤ w.heap.size) (hrc : RC w B x c) (hrv : Dom.RV w B Av nv lv) :
    Calls Tryz.prog 33 #[.slice Av nv cv, .agg x.cells, .bool env] w fun e w' => e = .returned (.int .i64 (cmdE lv c env)) ∧ Below w.heap.size w w' := by
  obtain ⟨⟨go, gn, gA, gl, gc⟩, ⟨sA, sn, sc⟩⟩ := x
  obtain ⟨hex, hrs⟩ := hrc
  have hsl := hrs.1
  have hsc := hrs.2.1
  have hsm := hrs.2.2.1
  simp only at hsl hsc hsm
  unfold maxLen at hsm
  have hnv := ho.1
  simp only at hnv
  unfold maxLen at hnv
  have Hnl := hide hrv.1
  have hbx := (Below.refl w.heap.size w).alloc (Nat.le_refl _) (.cells #[.int .i64 go, .int .i64 gn, .slice gA gl gc, .slice sA sn sc] 71)
  obtain ⟨bx, bs⟩ := box4 w go gn gA gl gc sA sn sc
  have hz0 : (w.alloc (.cells #[.int .i64 go, .int .i64 gn, .slice gA gl gc, .slice sA sn sc] 71)).heap.size = w.heap.size + 1 := by simp
  have Hex := hide (hex.below (hbx.mono hB))
  have Hrs := hide (hrs.keep (w' := w.alloc (.cells #[.int .i64 go, .int .i64 gn, .slice gA gl gc, .slice sA sn sc] 71)) (fun b o y h1 hy => SetAt.keep h1 hy (fun p hp => (hbx.mono hB).cell hp)))
  have Hrv := hide (hrv.below (hbx.mono hB))
  have Hbx := hide bx; have Hbs := hide bs; have Hb0 := hide hbx
  have Ho := hide ho
  have Hsl := hide hsl
  have Hc : Hid (cmdE lv c env = if Dom.mayL lv = 0 then (if needE lv c.guard 1 true (!env) false = 0 then (if 6 < c.sets.length then 7 else setGo lv env [] c.sets) else needE lv c.guard 1 true (!env) false) else Dom.mayL lv) := hide rfl
  clear hex hrs hrv hbx bx bs ho hsl
  simp only [C2.cells, SL.v]
  go_enter Tryz.func33, Tryz.ntmps33
  go_wp2_with fail
  generalize w.alloc (.cells #[.int .i64 go, .int .i64 gn, .slice gA gl gc, .slice sA sn sc] 71) = W at *
  have hzW : w.heap.size + 1 ≤ W.heap.size := by omega
  clear hz0
  refine (Dom.rmay_any Av nv cv B lv W Ho.out.1 Ho.out.2.1 Ho.out.2.2.1 (by omega) Hrv.out Ho.out.2.2.2).mono ?_
  rintro e w1 ⟨rfl, hb1⟩
  have hz1 := hb1.size
  have Hb1 := hide (Hb0.out.trans (hb1.mono (by omega)))
  have Hex1 := hide (Hex.out.below (hb1.mono (by omega)))
  have Hrs1 := hide (Hrs.out.keep (w' := w1) (fun b o y h1 hy => SetAt.keep h1 hy (fun p hp => (hb1.mono (by omega)).cell hp)))
  have Hrv1 := hide (Hrv.out.below (hb1.mono (by omega)))
  have Hbx1 := hide (Hbx.out.below hb1 (by omega))
  have Hbs1 := hide ((hb1.cell (p := ⟨w.heap.size, 3, none⟩) (by show w.heap.size < W.heap.size; omega)).trans Hbs.out)
  clear hb1 Hb0 Hex Hrs Hrv Hbx Hbs
  by_cases hm : Dom.mayL lv = 0
  · have hmb : (Dom.mayL lv != 0) = false := by simp [hm]
    rw [if_pos hm] at Hc
    have hlen6 : nv ≤ 6 := by
      have := Dom.totL_len (Dom.mayL_zero hm).2
      rw [Hnl.out] at this; exact this
    clear hm
    obtain ⟨f0, f1, f2⟩ := Hbx1.out
    obtain ⟨dg, hdg⟩ := Hex1.out
    have Hdg := hide hdg
    clear hdg
    go_wp2_with fail
    clear f0 f1 f2
    refine (rneeds_any B Av nv cv lv dg go gn gA gl gc c.guard 1 true (!env) false w1 Ho.out.1 Ho.out.2.1 Ho.out.2.2.1 (by omega) Hdg.out Hrv1.out Ho.out.2.2.2).mono ?_
    rintro e w2 ⟨rfl, hb2⟩
    have hz2 := hb2.size
    have Hb2 := hide (Hb1.out.trans (hb2.mono (by omega)))
    have Hrs2 := hide (Hrs1.out.keep (w' := w2) (fun b o y h1 hy => SetAt.keep h1 hy (fun p hp => (hb2.mono (by omega)).cell hp)))
    have Hrv2 := hide (Hrv1.out.below (hb2.mono (by omega)))
    have Hbs2 := hide ((hb2.cell (p := ⟨w.heap.size, 3, none⟩) (by show w.heap.size < w1.heap.size; omega)).trans Hbs1.out)
    clear hb2 Hb1 Hex1 Hrs1 Hrv1 Hbx1 Hbs1 Hdg
    by_cases hg : needE lv c.guard 1 true (!env) false = 0
    · have hgb : (needE lv c.guard 1 true (!env) false != 0) = false := by simp [hg]
      rw [if_pos hg] at Hc
      clear hg
      have f3 := Hbs2.out
      by_cases hs6 : 6 < sn
      · have hsb : decide ((6 : Int) < (sn : Int)) = true := by simp; omega
        have hsb2 : decide (6 < sn) = true := by simp [hs6]
        have Hf : Hid (cmdE lv c env = 7) := hide (by rw [Hc.out, if_pos (by rw [Hsl.out]; exact hs6)])
        clear hs6
        go_wp2_with fail
        go_ret
        exact ⟨ret_int Hf.out.symm, Hb2.out⟩
      · have hsb : decide ((6 : Int) < (sn : Int)) = false := by simp; omega
        have hsb2 : decide (6 < sn) = false := by simp [hs6]
        rw [if_neg (by rw [Hsl.out]; exact hs6)] at Hc
        have hbA := (Below.refl w2.heap.size w2).alloc (Nat.le_refl _) (.cells #[.bool false, .bool false, .bool false, .bool false, .bool false, .bool false] 109)
        have Hrow := hide (seen_new w2)
        have hzA : w2.heap.size + 1 ≤ (w2.alloc (.cells #[.bool false, .bool false, .bool false, .bool false, .bool false, .bool false] 109)).heap.size := by simp
        have Hb3 := hide (Hb2.out.trans (hbA.mono (by omega)))
        have Hrs3 := hide (Hrs2.out.keep (w' := w2.alloc (.cells #[.bool false, .bool false, .bool false, .bool false, .bool false, .bool false] 109)) (fun b o y h1 hy => SetAt.keep h1 hy (fun p hp => (hbA.mono (by omega)).cell hp)))
        have Hrv3 := hide (Hrv2.out.below (hbA.mono (by omega)))
        have f4 := (hbA.cell (p := ⟨w.heap.size, 3, none⟩) (by show w.heap.size < w2.heap.size; omega)).trans f3
        clear hbA Hb2 Hrs2 Hrv2 Hbs2
        go_wp2_with fail
        clear f3 f4
        generalize w2.alloc (.cells #[.bool false, .bool false, .bool false, .bool false, .bool false, .bool false] 109) = V at *
        generalize hG : w2.heap.size = G at *
        clear hG
        go_loopw [34] (fun i wr => ∃ (k : Nat) (seen : List Int), k ≤ sn ∧ i = .int .i64 k ∧ Hid (setGo lv env seen (c.sets.drop k) = setGo lv env [] c.sets) ∧ wr.rowIs G 109 6 (seenV seen) ∧ Onl G V wr) (fun i _ => sn - (intOf i).toNat)
        case atStart => exact ⟨0, [], by omega, rfl, hide rfl, Hrow.out, Onl.refl _ _⟩
        case round =>
          obtain ⟨k, seen, hk, rfl, HT, hrw, hon⟩ := hrel
          have Hrw := hide hrw
          have Hon := hide hon
          have hzr := hon.size
          have Hbw := hide (Hb3.out.trans (hon.below (B := w.heap.size) (by omega) (by have := Hb3.out.size; omega)))
          clear hrw hon
          by_cases hlt : k < sn
          · have hlt' : ((k : Int) < (sn : Int)) := by omega
            have hbV := Hon.out.below (B := B) (by omega) (by omega)
            obtain ⟨b, off, s, eA, hbB, hku, ⟨c0, c1, ⟨so, sm, sO, sl2, sc2⟩, ⟨c2, c3, c4⟩, hes⟩⟩ := (Hrs3.out.keep (w' := wr) (fun b o y h1 hy => SetAt.keep h1 hy (fun p hp => hbV.cell hp))).at_ (k := k) hlt
            simp only at eA c2 c3 c4
            subst eA
            have Hdr := hide (set_drop hku)
            obtain ⟨z, p, te⟩ := s
            simp only at c0 c1 hes
            have HT2 : Hid (setGo lv env seen (⟨z, p, te⟩ :: c.sets.drop (k + 1)) = cmdE lv c env) := hide (by rw [← Hdr.out, HT.out, Hc.out])
            clear hku HT
            have hbA := (Below.refl wr.heap.size wr).alloc (Nat.le_refl _) (.cells #[.int .i64 z, .bool p, .int .i64 so, .int .i64 sm, .slice sO sl2 sc2] 111)
            have Hes := hide (hes.below (hbA.mono (by omega)))
            have Hrv4 := hide ((Hrv3.out.below hbV).below (hbA.mono (by omega)))
            have Hrw4 := hide (Hrw.out.alloc (.cells #[.int .i64 z, .bool p, .int .i64 so, .int .i64 sm, .slice sO sl2 sc2] 111))
            have Hon4 := hide (Hon.out.alloc (.cells #[.int .i64 z, .bool p, .int .i64 so, .int .i64 sm, .slice sO sl2 sc2] 111))
            have Hb5 := hide (box5_new wr z p so sm sO sl2 sc2)
            have Hbw4 := hide (Hbw.out.trans (hbA.mono (by have := Hbw.out.size; omega)))
            have hz4 : wr.heap.size + 1 ≤ (wr.alloc (.cells #[.int .i64 z, .bool p, .int .i64 so, .int .i64 sm, .slice sO sl2 sc2] 111)).heap.size := by simp
            clear hes hbA hbV
            by_cases hz : z < 0
            · have hzb : decide (z < 0) = true := by simp [hz]
              obtain ⟨d0, d1, d2, d3, d4⟩ := Hb5.out
              have Hf : Hid (cmdE lv c env = 3) := hide (by rw [← HT2.out, setGo, if_pos (.inl hz)])
              go_wp2_with fail
              go_ret
              exact ⟨ret_int Hf.out.symm, Hbw4.out⟩
            · obtain ⟨q, rfl⟩ := Int.eq_ofNat_of_zero_le (show 0 ≤ z by omega)
              have hzb : decide ((q : Int) < 0) = false := by simp
              obtain ⟨d0, d1, d2, d3, d4⟩ := Hb5.out
              clear hz
              by_cases hq : nv ≤ q
              · have hqb : decide ((nv : Int) ≤ (q : Int)) = true := by simp; omega
                have hqc : decide (nv ≤ q) = true := by simp; omega
                have Hf : Hid (cmdE lv c env = 3) := hide (by rw [← HT2.out, setGo, if_pos (.inr (.inl (by rw [Hnl.out]; show (nv : Int) ≤ (q : Int); omega)))])
                go_wp2_with fail
                go_ret
                exact ⟨ret_int Hf.out.symm, Hbw4.out⟩
              · have hqb : decide ((nv : Int) ≤ (q : Int)) = false := by simp; omega
                have hqc : decide (nv ≤ q) = false := by simp; omega
                obtain ⟨vb, vo, v, eAv, hvb, hvq, g0, g1, g2, g3, g4⟩ := Hrv4.out.at_ (k := q) (by omega)
                subst eAv
                have hqn : (q : Int) < (nv : Int) := by omega
                have hq6 : (q : Int) < 6 := by omega
                have hen : envAt lv (q : Int) = v.env := by unfold envAt; simp [hvq]
                have hsrt : srtAt lv (q : Int) = v.srt := by unfold srtAt; simp [hvq]
                clear g0 g3 g4 hvq
                cases env <;> cases hve : v.env
                · rw [hve] at g1 hen
                  have henv := hen
                  by_cases hsn : (q : Int) ∈ seen
                  · have ca : (wr.alloc (.cells #[.int .i64 (q : Int), .bool p, .int .i64 so, .int .i64 sm, .slice sO sl2 sc2] 111)).cell? ⟨G, q, none⟩ = some (.bool true) := (Hrw4.out.cell (i := q) (by omega)).trans (by simp [seenV, hsn])
                    have Hf : Hid (cmdE lv c false = 3) := hide (by rw [← HT2.out, setGo, if_pos (.inr (.inr (.inr hsn)))])
                    go_wp2_with fail
                    go_ret
                    exact ⟨ret_int Hf.out.symm, Hbw4.out⟩
                  · have ca : (wr.alloc (.cells #[.int .i64 (q : Int), .bool p, .int .i64 so, .int .i64 sm, .slice sO sl2 sc2] 111)).cell? ⟨G, q, none⟩ = some (.bool false) := (Hrw4.out.cell (i := q) (by omega)).trans (by simp [seenV, hsn])
                    have hfz := Hrw4.out.frozen q
                    have hno : ¬ ((q : Int) < 0 ∨ (lv.length : Int) ≤ (q : Int) ∨ envAt lv (q : Int) ≠ false ∨ (q : Int) ∈ seen) := by
                      rintro (h | h | h | h)
                      · omega
                      · rw [Hnl.out] at h; omega
                      · exact h henv
                      · exact hsn h
                    have HT3 : Hid ((if p = true then (if zeroE te = true then setGo lv false ((q : Int) :: seen) (c.sets.drop (k + 1)) else 1) else if needE lv te (srtAt lv (q : Int)) true true false = 0 then setGo lv false ((q : Int) :: seen) (c.sets.drop (k + 1)) else needE lv te (srtAt lv (q : Int)) true true false) = cmdE lv c false) := hide (by
                      have h := HT2.out
                      rw [setGo, if_neg hno] at h
                      exact h)
                    clear HT2 hno hsn
                    have hne : wr.heap.size ≠ G := by omega
                    have farB : ∀ q2 : Addr, q2.block ≠ G → ((wr.alloc (.cells #[.int .i64 (q : Int), .bool p, .int .i64 so, .int .i64 sm, .slice sO sl2 sc2] 111)).setCell ⟨G, q, none⟩ (.bool true)).cell? q2 = (wr.alloc (.cells #[.int .i64 (q : Int), .bool p, .int .i64 so, .int .i64 sm, .slice sO sl2 sc2] 111)).cell? q2 := fun q2 h => World.cell?_setCell_far _ _ _ _ (fun e => h e.symm)
                    have Hb6 := hide (Hb5.out.far (w' := (wr.alloc (.cells #[.int .i64 (q : Int), .bool p, .int .i64 so, .int .i64 sm, .slice sO sl2 sc2] 111)).setCell ⟨G, q, none⟩ (.bool true)) (fun q2 hq2 => farB q2 (by rw [hq2]; exact hne)))
                    have Hes6 := hide (Hes.out.keep (w' := (wr.alloc (.cells #[.int .i64 (q : Int), .bool p, .int .i64 so, .int .i64 sm, .slice sO sl2 sc2] 111)).setCell ⟨G, q, none⟩ (.bool true)) (fun p2 hp2 => farB p2 (by omega)))
                    have Hrv6 := hide (Hrv4.out.keep (w' := (wr.alloc (.cells #[.int .i64 (q : Int), .bool p, .int .i64 so, .int .i64 sm, .slice sO sl2 sc2] 111)).setCell ⟨G, q, none⟩ (.bool true)) (fun p2 hp2 => farB p2 (by omega)))
                    have Hrw6 := hide (seen_set (k := q) Hrw4.out)
                    have Hon6 := hide (Hon4.out.set q (.bool true))
                    have Hbw6 := hide (Hbw4.out.setCell (p := ⟨G, q, none⟩) (by show w.heap.size ≤ G; omega) (.bool true))
                    have g2s := (farB ⟨vb, vo + q * 5 + 2, none⟩ (by show vb ≠ G; omega)).trans g2
                    have hz6 : wr.heap.size + 1 ≤ ((wr.alloc (.cells #[.int .i64 (q : Int), .bool p, .int .i64 so, .int .i64 sm, .slice sO sl2 sc2] 111)).setCell ⟨G, q, none⟩ (.bool true)).heap.size := by simp [World.setCell]
                    have Hg2 := hide g2s
                    have k0 := Hb6.out.1
                    have k1 := Hb6.out.2.1
                    clear farB g2s
                    cases p
                    · have HT4 : Hid ((if needE lv te (srtAt lv (q : Int)) true true false = 0 then setGo lv false ((q : Int) :: seen) (c.sets.drop (k + 1)) else needE lv te (srtAt lv (q : Int)) true true false) = cmdE lv c false) := hide (by have h := HT3.out; simpa using h)
                      rw [hsrt] at HT4
                      clear HT3 hsrt
                      go_wp2_with fail
                      clear k0 k1 ca hfz d0 d1 d2 d3 d4 g1 g2
                      generalize (wr.alloc (.cells #[.int .i64 (q : Int), .bool false, .int .i64 so, .int .i64 sm, .slice sO sl2 sc2] 111)).setCell ⟨G, q, none⟩ (.bool true) = W2 at *
                      have C0 := cell_regrown Hb6.out.1
                      have C2 := cell_regrown Hb6.out.2.2.1
                      have C3 := cell_regrown Hb6.out.2.2.2.1
                      have C4 := cell_regrown Hb6.out.2.2.2.2
                      have C5 := cell_regrown Hg2.out
                      have hBW : B ≤ W2.heap.size := by omega
                      refine wp_region_quiet_below (by kernel_rfl) (by kernel_rfl) ?_
                      repeat (go_big_quiet_step ((go_at_call 31; exact q_rneeds5 hBW Ho Hrv6 Hes6)))
                      refine wpQuiet_nil ?_
                      intro w5 hw5
                      obtain ⟨pp, hpp⟩ := hw5
                      have hb5 : Below W2.heap.size W2 w5 := by rw [hpp]; exact below_regrown W2 pp.d pp.os
                      have Hb7 := hide (Hbw6.out.trans (hb5.mono (by have := Hbw6.out.size; omega)))
                      have Hrw7 := hide (Hrw6.out.of_block (hb5.block _ (by omega)))
                      have Hon7 : Hid (Onl G V w5) := hide (Hon6.out.trans ⟨hb5.os, hb5.tape, hb5.output, hb5.size, fun i hi _ => hb5.block i hi⟩)
                      clear hpp hb5 C0 C2 C3 C4 C5 Hrw6 Hon6 Hbw6
                      generalize needE lv te v.srt true true false = r at *
                      by_cases hr : r = 0
                      · have hrb : (r != 0) = false := by simp [hr]
                        have HT5 : Hid (setGo lv false ((q : Int) :: seen) (c.sets.drop (k + 1)) = setGo lv false [] c.sets) := hide (by have h := HT4.out; rw [if_pos hr, Hc.out] at h; exact h)
                        clear hr HT4
                        go_wp2_with fail
                        go_roundw
                        case rel => exact ⟨k + 1, (q : Int) :: seen, by omega, by go_num, HT5, Hrw7.out, Hon7.out⟩
                        case measure => simp [intOf]; omega
                      · have hrb : (r != 0) = true := by simp [hr]
                        have Hf : Hid (cmdE lv c false = r) := hide (by have h := HT4.out; rw [if_neg hr] at h; exact h.symm)
                        clear hr HT4
                        go_wp2_with fail
                        go_ret
                        exact ⟨ret_int Hf.out.symm, Hb7.out⟩
                    · have HT4 : Hid ((if zeroE te = true then setGo lv false ((q : Int) :: seen) (c.sets.drop (k + 1)) else 1) = cmdE lv c false) := hide (by have h := HT3.out; simpa using h)
                      clear HT3 hsrt
                      have k2 := Hb6.out.2.2.1
                      have k3 := Hb6.out.2.2.2.1
                      have k4 := Hb6.out.2.2.2.2
                      go_wp2_with fail
                      clear k0 k1 k2 k3 k4 ca hfz d0 d1 d2 d3 d4 g1 g2
                      generalize (wr.alloc (.cells #[.int .i64 (q : Int), .bool true, .int .i64 so, .int .i64 sm, .slice sO sl2 sc2] 111)).setCell ⟨G, q, none⟩ (.bool true) = W2 at *
                      refine (zero_any B ⟨so, sm, sO, sl2, sc2⟩ te W2 Hes6.out).mono ?_
                      rintro e w5 ⟨rfl, hb5⟩
                      have Hb7 := hide (Hbw6.out.trans (hb5.mono (by have := Hbw6.out.size; omega)))
                      have Hrw7 := hide (Hrw6.out.of_block (hb5.block _ (by omega)))
                      have Hon7 : Hid (Onl G V w5) := hide (Hon6.out.trans ⟨hb5.os, hb5.tape, hb5.output, hb5.size, fun i hi _ => hb5.block i hi⟩)
                      clear hb5 Hrw6 Hon6 Hbw6
                      generalize zeroE te = r at *
                      cases r
                      · have Hf : Hid (cmdE lv c false = 1) := hide (by have h := HT4.out; rw [if_neg (by simp)] at h; exact h.symm)
                        go_wp2_with fail
                        go_ret
                        exact ⟨ret_int Hf.out.symm, Hb7.out⟩
                      · have HT5 : Hid (setGo lv false ((q : Int) :: seen) (c.sets.drop (k + 1)) = setGo lv false [] c.sets) := hide (by have h := HT4.out; rw [if_pos rfl, Hc.out] at h; exact h)
                        clear HT4
                        go_wp2_with fail
                        go_roundw
                        case rel =>
                          refine ⟨_, _, _, _, _, _, _, _, _, _, _, _, _, _, _, _, _, _, _, _, _, _, _, _, _, _, _, _, _, _, _, _, _, _, _, _, _, _, _, _, _, _, _, _, _, _, _, _, _, _, _, _, _, _, _, _, _, _, ?_, rfl⟩
                          exact ⟨k + 1, (q : Int) :: seen, by omega, by go_num, HT5, Hrw7.out, Hon7.out⟩
                        case measure => simp [intOf]; omega
                · rw [hve] at g1 hen
                  have Hf : Hid (cmdE lv c false = 3) := hide (by rw [← HT2.out, setGo, if_pos (.inr (.inr (.inl (by rw [hen]; simp))))])
                  go_wp2_with fail
                  go_ret
                  exact ⟨ret_int Hf.out.symm, Hbw4.out⟩
                · rw [hve] at g1 hen
                  have Hf : Hid (cmdE lv c true = 3) := hide (by rw [← HT2.out, setGo, if_pos (.inr (.inr (.inl (by rw [hen]; simp))))])
                  go_wp2_with fail
                  go_ret
                  exact ⟨ret_int Hf.out.symm, Hbw4.out⟩
                · rw [hve] at g1 hen
                  have henv := hen
                  by_cases hsn : (q : Int) ∈ seen
                  · have ca : (wr.alloc (.cells #[.int .i64 (q : Int), .bool p, .int .i64 so, .int .i64 sm, .slice sO sl2 sc2] 111)).cell? ⟨G, q, none⟩ = some (.bool true) := (Hrw4.out.cell (i := q) (by omega)).trans (by simp [seenV, hsn])
                    have Hf : Hid (cmdE lv c true = 3) := hide (by rw [← HT2.out, setGo, if_pos (.inr (.inr (.inr hsn)))])
                    go_wp2_with fail
                    go_ret
                    exact ⟨ret_int Hf.out.symm, Hbw4.out⟩
                  · have ca : (wr.alloc (.cells #[.int .i64 (q : Int), .bool p, .int .i64 so, .int .i64 sm, .slice sO sl2 sc2] 111)).cell? ⟨G, q, none⟩ = some (.bool false) := (Hrw4.out.cell (i := q) (by omega)).trans (by simp [seenV, hsn])
                    have hfz := Hrw4.out.frozen q
                    have hno : ¬ ((q : Int) < 0 ∨ (lv.length : Int) ≤ (q : Int) ∨ envAt lv (q : Int) ≠ true ∨ (q : Int) ∈ seen) := by
                      rintro (h | h | h | h)
                      · omega
                      · rw [Hnl.out] at h; omega
                      · exact h henv
                      · exact hsn h
                    have HT3 : Hid ((if p = true then (if zeroE te = true then setGo lv true ((q : Int) :: seen) (c.sets.drop (k + 1)) else 1) else if needE lv te (srtAt lv (q : Int)) true false false = 0 then setGo lv true ((q : Int) :: seen) (c.sets.drop (k + 1)) else needE lv te (srtAt lv (q : Int)) true false false) = cmdE lv c true) := hide (by
                      have h := HT2.out
                      rw [setGo, if_neg hno] at h
                      exact h)
                    clear HT2 hno hsn
                    have hne : wr.heap.size ≠ G := by omega
                    have farB : ∀ q2 : Addr, q2.block ≠ G → ((wr.alloc (.cells #[.int .i64 (q : Int), .bool p, .int .i64 so, .int .i64 sm, .slice sO sl2 sc2] 111)).setCell ⟨G, q, none⟩ (.bool true)).cell? q2 = (wr.alloc (.cells #[.int .i64 (q : Int), .bool p, .int .i64 so, .int .i64 sm, .slice sO sl2 sc2] 111)).cell? q2 := fun q2 h => World.cell?_setCell_far _ _ _ _ (fun e => h e.symm)
                    have Hb6 := hide (Hb5.out.far (w' := (wr.alloc (.cells #[.int .i64 (q : Int), .bool p, .int .i64 so, .int .i64 sm, .slice sO sl2 sc2] 111)).setCell ⟨G, q, none⟩ (.bool true)) (fun q2 hq2 => farB q2 (by rw [hq2]; exact hne)))
                    have Hes6 := hide (Hes.out.keep (w' := (wr.alloc (.cells #[.int .i64 (q : Int), .bool p, .int .i64 so, .int .i64 sm, .slice sO sl2 sc2] 111)).setCell ⟨G, q, none⟩ (.bool true)) (fun p2 hp2 => farB p2 (by omega)))
                    have Hrv6 := hide (Hrv4.out.keep (w' := (wr.alloc (.cells #[.int .i64 (q : Int), .bool p, .int .i64 so, .int .i64 sm, .slice sO sl2 sc2] 111)).setCell ⟨G, q, none⟩ (.bool true)) (fun p2 hp2 => farB p2 (by omega)))
                    have Hrw6 := hide (seen_set (k := q) Hrw4.out)
                    have Hon6 := hide (Hon4.out.set q (.bool true))
                    have Hbw6 := hide (Hbw4.out.setCell (p := ⟨G, q, none⟩) (by show w.heap.size ≤ G; omega) (.bool true))
                    have g2s := (farB ⟨vb, vo + q * 5 + 2, none⟩ (by show vb ≠ G; omega)).trans g2
                    have hz6 : wr.heap.size + 1 ≤ ((wr.alloc (.cells #[.int .i64 (q : Int), .bool p, .int .i64 so, .int .i64 sm, .slice sO sl2 sc2] 111)).setCell ⟨G, q, none⟩ (.bool true)).heap.size := by simp [World.setCell]
                    have Hg2 := hide g2s
                    have k0 := Hb6.out.1
                    have k1 := Hb6.out.2.1
                    clear farB g2s
                    cases p
                    · have HT4 : Hid ((if needE lv te (srtAt lv (q : Int)) true false false = 0 then setGo lv true ((q : Int) :: seen) (c.sets.drop (k + 1)) else needE lv te (srtAt lv (q : Int)) true false false) = cmdE lv c true) := hide (by have h := HT3.out; simpa using h)
                      rw [hsrt] at HT4
                      clear HT3 hsrt
                      go_wp2_with fail
                      clear k0 k1 ca hfz d0 d1 d2 d3 d4 g1 g2
                      generalize (wr.alloc (.cells #[.int .i64 (q : Int), .bool false, .int .i64 so, .int .i64 sm, .slice sO sl2 sc2] 111)).setCell ⟨G, q, none⟩ (.bool true) = W2 at *
                      have C0 := cell_regrown Hb6.out.1
                      have C2 := cell_regrown Hb6.out.2.2.1
                      have C3 := cell_regrown Hb6.out.2.2.2.1
                      have C4 := cell_regrown Hb6.out.2.2.2.2
                      have C5 := cell_regrown Hg2.out
                      have hBW : B ≤ W2.heap.size := by omega
                      refine wp_region_quiet_below (by kernel_rfl) (by kernel_rfl) ?_
                      repeat (go_big_quiet_step ((go_at_call 31; exact q_rneeds5 hBW Ho Hrv6 Hes6)))
                      refine wpQuiet_nil ?_
                      intro w5 hw5
                      obtain ⟨pp, hpp⟩ := hw5
                      have hb5 : Below W2.heap.size W2 w5 := by rw [hpp]; exact below_regrown W2 pp.d pp.os
                      have Hb7 := hide (Hbw6.out.trans (hb5.mono (by have := Hbw6.out.size; omega)))
                      have Hrw7 := hide (Hrw6.out.of_block (hb5.block _ (by omega)))
                      have Hon7 : Hid (Onl G V w5) := hide (Hon6.out.trans ⟨hb5.os, hb5.tape, hb5.output, hb5.size, fun i hi _ => hb5.block i hi⟩)
                      clear hpp hb5 C0 C2 C3 C4 C5 Hrw6 Hon6 Hbw6
                      generalize needE lv te v.srt true false false = r at *
                      by_cases hr : r = 0
                      · have hrb : (r != 0) = false := by simp [hr]
                        have HT5 : Hid (setGo lv true ((q : Int) :: seen) (c.sets.drop (k + 1)) = setGo lv true [] c.sets) := hide (by have h := HT4.out; rw [if_pos hr, Hc.out] at h; exact h)
                        clear hr HT4
                        go_wp2_with fail
                        go_roundw
                        case rel => exact ⟨k + 1, (q : Int) :: seen, by omega, by go_num, HT5, Hrw7.out, Hon7.out⟩
                        case measure => simp [intOf]; omega
                      · have hrb : (r != 0) = true := by simp [hr]
                        have Hf : Hid (cmdE lv c true = r) := hide (by have h := HT4.out; rw [if_neg hr] at h; exact h.symm)
                        clear hr HT4
                        go_wp2_with fail
                        go_ret
                        exact ⟨ret_int Hf.out.symm, Hb7.out⟩
                    · have HT4 : Hid ((if zeroE te = true then setGo lv true ((q : Int) :: seen) (c.sets.drop (k + 1)) else 1) = cmdE lv c true) := hide (by have h := HT3.out; simpa using h)
                      clear HT3 hsrt
                      have k2 := Hb6.out.2.2.1
                      have k3 := Hb6.out.2.2.2.1
                      have k4 := Hb6.out.2.2.2.2
                      go_wp2_with fail
                      clear k0 k1 k2 k3 k4 ca hfz d0 d1 d2 d3 d4 g1 g2
                      generalize (wr.alloc (.cells #[.int .i64 (q : Int), .bool true, .int .i64 so, .int .i64 sm, .slice sO sl2 sc2] 111)).setCell ⟨G, q, none⟩ (.bool true) = W2 at *
                      refine (zero_any B ⟨so, sm, sO, sl2, sc2⟩ te W2 Hes6.out).mono ?_
                      rintro e w5 ⟨rfl, hb5⟩
                      have Hb7 := hide (Hbw6.out.trans (hb5.mono (by have := Hbw6.out.size; omega)))
                      have Hrw7 := hide (Hrw6.out.of_block (hb5.block _ (by omega)))
                      have Hon7 : Hid (Onl G V w5) := hide (Hon6.out.trans ⟨hb5.os, hb5.tape, hb5.output, hb5.size, fun i hi _ => hb5.block i hi⟩)
                      clear hb5 Hrw6 Hon6 Hbw6
                      generalize zeroE te = r at *
                      cases r
                      · have Hf : Hid (cmdE lv c true = 1) := hide (by have h := HT4.out; rw [if_neg (by simp)] at h; exact h.symm)
                        go_wp2_with fail
                        go_ret
                        exact ⟨ret_int Hf.out.symm, Hb7.out⟩
                      · have HT5 : Hid (setGo lv true ((q : Int) :: seen) (c.sets.drop (k + 1)) = setGo lv true [] c.sets) := hide (by have h := HT4.out; rw [if_pos rfl, Hc.out] at h; exact h)
                        clear HT4
                        go_wp2_with fail
                        go_roundw
                        case rel =>
                          refine ⟨_, _, _, _, _, _, _, _, _, _, _, _, _, _, _, _, _, _, _, _, _, _, _, _, _, _, _, _, _, _, _, _, _, _, _, _, _, _, _, _, _, _, _, _, _, _, _, _, _, _, _, _, _, _, _, _, _, _, ?_, rfl⟩
                          exact ⟨k + 1, (q : Int) :: seen, by omega, by go_num, HT5, Hrw7.out, Hon7.out⟩
                        case measure => simp [intOf]; omega
          · have hlt' : ¬ ((k : Int) < (sn : Int)) := by omega
            have Hf : Hid (cmdE lv c env = 0) := hide (by
              rw [Hc.out, ← HT.out, List.drop_of_length_le (by rw [Hsl.out]; omega), setGo])
            go_wp2_with fail
            go_ret
            exact ⟨ret_int Hf.out.symm, Hbw.out⟩
    · have hgb : (needE lv c.guard 1 true (!env) false != 0) = true := by simp [hg]
      rw [if_neg hg] at Hc
      clear hg
      go_wp2_with fail
      go_ret
      exact ⟨ret_int Hc.out.symm, Hb2.out⟩
  · have hmb : (Dom.mayL lv != 0) = true := by simp [hm]
    rw [if_neg hm] at Hc
    clear hm
    go_wp2_with fail
    go_ret
    exact ⟨ret_int Hc.out.symm, Hb1.out⟩
end Go.Proofs.YtbppdalfcldodaaGreat
namespace Go.Proofs.YtbppdalfcldodaaGreat
open Go.RowKit Ex
open Go.Sort (grow)
set_option linter.unusedSimpArgs false
set_option linter.unusedVariables false

theorem first_zero {x : Int} {r : List Int} {y : Int} (h : y = firstE (x :: r)) (hx : x = 0) : y = firstE r := by rw [h, firstE, if_pos hx]
theorem first_not {x : Int} {r : List Int} {y : Int} (h : y = firstE (x :: r)) (hx : ¬ x = 0) : y = x := by rw [h, firstE, if_neg hx]
def BoxM (w : World) (b : Nat) (x : M8) : Prop := ∀ (i : Nat) v, x.cells[i]? = some v → w.cell? ⟨b, i, none⟩ = some v
theorem BoxM.below {w w' : World} {B b : Nat} {x : M8} (h : BoxM w b x) (hb : Below B w w') (hB : b < B) : BoxM w' b x := fun i v hv => (hb.cell (by exact hB)).trans (h i v hv)
theorem boxM_new (w : World) (x : M8) : BoxM (w.alloc (.cells x.cells 28)) w.heap.size x := fun i v hv => by
  rw [cell_of_row _ _ i x.cells 28 (0, 0) (heap_alloc_new w _)]
  exact hv
set_option maxRecDepth 100000 in
set_option maxHeartbeats 8000000 in
theorem rmod_any (B : Nat) (x : M8) (m : MT) (w : World) (hB : B ≤ w.heap.size) (hrm : RM w B x m) :
    Calls Tryz.prog 23 #[.agg x.cells] w fun e w' => e = .returned (.int .i64 (modE m)) ∧ Below w.heap.size w w' := by
  have hbx := (Below.refl w.heap.size w).alloc (Nat.le_refl _) (.cells x.cells 28)
  have Hrm0 := hide (hrm.below (hbx.mono hB))
  have Hbx0 := hide (boxM_new w x)
  have Hb0 := hide hbx
  have hz0 : w.heap.size + 1 ≤ (w.alloc (.cells x.cells 28)).heap.size := by simp
  have Ho := hide hrm.1
  have He := hide hrm.2.2.2.2.1
  obtain ⟨⟨vA, vn, vc⟩, ⟨io, im, iA, il, ic⟩, ⟨jo, jm, jA, jl, jc⟩, ⟨eA, en, ec⟩, ⟨sA, sn, sc⟩, ⟨aA, an, ac⟩, ⟨nA, nn, nc⟩, ⟨pA, pn, pc⟩⟩ := x
  have bE := hrm.2.2.2.2.1.2
  have bS := hrm.2.2.2.2.2.1.2
  have bA := hrm.2.2.2.2.2.2.1.2
  have bN := hrm.2.2.2.2.2.2.2.1.2
  have bP := hrm.2.2.2.2.2.2.2.2.2
  have lE := hrm.2.2.2.2.1.1
  have lS := hrm.2.2.2.2.2.1.1
  have lA := hrm.2.2.2.2.2.2.1.1
  have lN := hrm.2.2.2.2.2.2.2.1.1
  have lP := hrm.2.2.2.2.2.2.2.2.1
  simp only at lE lS lA lN lP
  have LE := hide lE; have LS := hide lS; have LA := hide lA; have LN := hide lN; have LP := hide lP
  have xE : en ≤ 2 ^ 63 - 1 := Nat.le_trans bE.1 bE.2.1
  have xS : sn ≤ 2 ^ 63 - 1 := Nat.le_trans bS.1 bS.2.1
  have xA : an ≤ 2 ^ 63 - 1 := Nat.le_trans bA.1 bA.2.1
  have xN : nn ≤ 2 ^ 63 - 1 := Nat.le_trans bN.1 bN.2.1
  have xP : pn ≤ 2 ^ 63 - 1 := Nat.le_trans bP.1 bP.2.1
  have xV : vn ≤ 2 ^ 63 - 1 := hrm.1.1
  have HM : Hid (modE m = firstE [Dom.mayL m.vars, needE m.vars m.ie 1 false false false, needE m.vars m.is 1 true false false, sizesE m, cmdsE m.vars true m.env, cmdsE m.vars false m.sys, bothE m, goalsE m.vars m.asm, goalsE m.vars m.ens, goalsE m.vars m.prio]) := hide rfl
  clear hrm hbx bE bS bA bN bP lE lS lA lN lP He
  simp only [M8.cells, SL.v] at *
  have q0 : (w.alloc (.cells #[.slice vA vn vc, .int .i64 io, .int .i64 im, .slice iA il ic, .int .i64 jo, .int .i64 jm, .slice jA jl jc, .slice eA en ec, .slice sA sn sc, .slice aA an ac, .slice nA nn nc, .slice pA pn pc] 28)).cell? ⟨w.heap.size, 0, none⟩ = some (.slice vA vn vc) := Hbx0.out 0 _ rfl
  go_enter Tryz.func23, Tryz.ntmps23
  go_wp2_with fail
  clear q0
  generalize hW : w.alloc (.cells #[.slice vA vn vc, .int .i64 io, .int .i64 im, .slice iA il ic, .int .i64 jo, .int .i64 jm, .slice jA jl jc, .slice eA en ec, .slice sA sn sc, .slice aA an ac, .slice nA nn nc, .slice pA pn pc] 28) = w0 at *
  clear hW
  have q0 : w0.cell? ⟨w.heap.size, 0, none⟩ = some (.slice vA vn vc) := Hbx0.out 0 _ rfl
  refine (Dom.rmay_any vA vn vc B m.vars w0 Ho.out.1 Ho.out.2.1 Ho.out.2.2.1 (by omega) Hrm0.out.2.1 Ho.out.2.2.2).mono ?_
  rintro e w1 ⟨rfl, hb1⟩
  clear q0
  have hz1 := hb1.size
  have Hb1 := hide (Hb0.out.trans (hb1.mono (by omega)))
  have Hrm1 := hide (Hrm0.out.below (hb1.mono (by omega)))
  have Hbx1 := hide (Hbx0.out.below hb1 (by omega))
  clear hb1 Hb0 Hrm0 Hbx0
  by_cases hx : Dom.mayL m.vars = 0
  · have hxb : (Dom.mayL m.vars != 0) = false := by simp [hx]
    have HM2 := hide (first_zero HM.out hx)
    clear hx HM
    have HM := HM2
    clear HM2
    have q1 := Hbx1.out 1 _ rfl
    have q2 := Hbx1.out 2 _ rfl
    have q3 := Hbx1.out 3 _ rfl
    obtain ⟨dg, hdg⟩ := Hrm1.out.2.2.1
    have Hdg := hide hdg
    clear hdg
    go_wp2_with fail
    clear q1 q2 q3
    refine (rneeds_any B vA vn vc m.vars dg io im iA il ic m.ie 1 false false false w1 Ho.out.1 Ho.out.2.1 Ho.out.2.2.1 (by omega) Hdg.out Hrm1.out.2.1 Ho.out.2.2.2).mono ?_
    rintro e w2 ⟨rfl, hb2⟩
    clear Hdg
    have hz2 := hb2.size
    have Hb2 := hide (Hb1.out.trans (hb2.mono (by omega)))
    have Hrm2 := hide (Hrm1.out.below (hb2.mono (by omega)))
    have Hbx2 := hide (Hbx1.out.below hb2 (by omega))
    clear hb2 Hb1 Hrm1 Hbx1
    by_cases hx : needE m.vars m.ie 1 false false false = 0
    · have hxb : (needE m.vars m.ie 1 false false false != 0) = false := by simp [hx]
      have HM2 := hide (first_zero HM.out hx)
      clear hx HM
      have HM := HM2
      clear HM2
      have q1 := Hbx2.out 4 _ rfl
      have q2 := Hbx2.out 5 _ rfl
      have q3 := Hbx2.out 6 _ rfl
      obtain ⟨dg, hdg⟩ := Hrm2.out.2.2.2.1
      have Hdg := hide hdg
      clear hdg
      go_wp2_with fail
      clear q1 q2 q3
      refine (rneeds_any B vA vn vc m.vars dg jo jm jA jl jc m.is 1 true false false w2 Ho.out.1 Ho.out.2.1 Ho.out.2.2.1 (by omega) Hdg.out Hrm2.out.2.1 Ho.out.2.2.2).mono ?_
      rintro e w3 ⟨rfl, hb3⟩
      clear Hdg
      have hz3 := hb3.size
      have Hb3 := hide (Hb2.out.trans (hb3.mono (by omega)))
      have Hrm3 := hide (Hrm2.out.below (hb3.mono (by omega)))
      have Hbx3 := hide (Hbx2.out.below hb3 (by omega))
      clear hb3 Hb2 Hrm2 Hbx2
      by_cases hx : needE m.vars m.is 1 true false false = 0
      · have hxb : (needE m.vars m.is 1 true false false != 0) = false := by simp [hx]
        have HM2 := hide (first_zero HM.out hx)
        clear hx HM
        have HM := HM2
        clear HM2
        have r1 : w3.cell? ⟨w.heap.size, 7, none⟩ = some (.slice eA en ec) := Hbx3.out 7 _ rfl
        have r2 : w3.cell? ⟨w.heap.size, 8, none⟩ = some (.slice sA sn sc) := Hbx3.out 8 _ rfl
        have r3 : w3.cell? ⟨w.heap.size, 9, none⟩ = some (.slice aA an ac) := Hbx3.out 9 _ rfl
        have r4 : w3.cell? ⟨w.heap.size, 10, none⟩ = some (.slice nA nn nc) := Hbx3.out 10 _ rfl
        have r5 : w3.cell? ⟨w.heap.size, 11, none⟩ = some (.slice pA pn pc) := Hbx3.out 11 _ rfl
        by_cases hs0 : 12 < en
        · have hsb0 : decide ((12 : Int) < (en : Int)) = true := by simp; omega
          have hsc0 : decide (12 < en) = true := by simp; omega
          have hsz7 : sizesE m = 7 := by
            unfold sizesE
            rw [if_pos (.inl (by rw [LE.out]; exact hs0))]
          have Hf : Hid (modE m = 7) := hide ((first_not HM.out (by rw [hsz7]; omega)).trans hsz7)
          clear hsz7 HM
          go_wp2_with fail
          go_ret
          exact ⟨ret_int Hf.out.symm, Hb3.out⟩
        · have hsb0 : decide ((12 : Int) < (en : Int)) = false := by simp; omega
          have hsc0 : decide (12 < en) = false := by simp; omega
          by_cases hs1 : 12 < sn
          · have hsb1 : decide ((12 : Int) < (sn : Int)) = true := by simp; omega
            have hsc1 : decide (12 < sn) = true := by simp; omega
            have hsz7 : sizesE m = 7 := by
              unfold sizesE
              rw [if_pos (.inr (.inl (by rw [LS.out]; exact hs1)))]
            have Hf : Hid (modE m = 7) := hide ((first_not HM.out (by rw [hsz7]; omega)).trans hsz7)
            clear hsz7 HM
            go_wp2_with fail
            go_ret
            exact ⟨ret_int Hf.out.symm, Hb3.out⟩
          · have hsb1 : decide ((12 : Int) < (sn : Int)) = false := by simp; omega
            have hsc1 : decide (12 < sn) = false := by simp; omega
            by_cases hs2 : 4 < an
            · have hsb2 : decide ((4 : Int) < (an : Int)) = true := by simp; omega
              have hsc2 : decide (4 < an) = true := by simp; omega
              have hsz7 : sizesE m = 7 := by
                unfold sizesE
                rw [if_pos (.inr (.inr (.inl (by rw [LA.out]; exact hs2))))]
              have Hf : Hid (modE m = 7) := hide ((first_not HM.out (by rw [hsz7]; omega)).trans hsz7)
              clear hsz7 HM
              go_wp2_with fail
              go_ret
              exact ⟨ret_int Hf.out.symm, Hb3.out⟩
            · have hsb2 : decide ((4 : Int) < (an : Int)) = false := by simp; omega
              have hsc2 : decide (4 < an) = false := by simp; omega
              by_cases hs3 : 4 < nn
              · have hsb3 : decide ((4 : Int) < (nn : Int)) = true := by simp; omega
                have hsc3 : decide (4 < nn) = true := by simp; omega
                have hsz7 : sizesE m = 7 := by
                  unfold sizesE
                  rw [if_pos (.inr (.inr (.inr (.inl (by rw [LN.out]; exact hs3)))))]
                have Hf : Hid (modE m = 7) := hide ((first_not HM.out (by rw [hsz7]; omega)).trans hsz7)
                clear hsz7 HM
                go_wp2_with fail
                go_ret
                exact ⟨ret_int Hf.out.symm, Hb3.out⟩
              · have hsb3 : decide ((4 : Int) < (nn : Int)) = false := by simp; omega
                have hsc3 : decide (4 < nn) = false := by simp; omega
                by_cases hs4 : 6 < pn
                · have hsb4 : decide ((6 : Int) < (pn : Int)) = true := by simp; omega
                  have hsc4 : decide (6 < pn) = true := by simp; omega
                  have hsz7 : sizesE m = 7 := by
                    unfold sizesE
                    rw [if_pos (.inr (.inr (.inr (.inr (by rw [LP.out]; exact hs4)))))]
                  have Hf : Hid (modE m = 7) := hide ((first_not HM.out (by rw [hsz7]; omega)).trans hsz7)
                  clear hsz7 HM
                  go_wp2_with fail
                  go_ret
                  exact ⟨ret_int Hf.out.symm, Hb3.out⟩
                · have hsb4 : decide ((6 : Int) < (pn : Int)) = false := by simp; omega
                  have hsc4 : decide (6 < pn) = false := by simp; omega
                  have hsz0 : sizesE m = 0 := by
                    unfold sizesE
                    rw [if_neg (by rw [LE.out, LS.out, LA.out, LN.out, LP.out]; omega)]
                  have HM2 := hide (first_zero HM.out hsz0)
                  clear hsz0 HM
                  have HM := HM2
                  clear HM2
                  clear r1 r2 r3 r4 r5
                  have r1 : w3.cell? ⟨w.heap.size, 7, none⟩ = some (.slice eA en ec) := Hbx3.out 7 _ rfl
                  have r2 : w3.cell? ⟨w.heap.size, 8, none⟩ = some (.slice sA sn sc) := Hbx3.out 8 _ rfl
                  have r3 : w3.cell? ⟨w.heap.size, 9, none⟩ = some (.slice aA an ac) := Hbx3.out 9 _ rfl
                  have r4 : w3.cell? ⟨w.heap.size, 10, none⟩ = some (.slice nA nn nc) := Hbx3.out 10 _ rfl
                  have r5 : w3.cell? ⟨w.heap.size, 11, none⟩ = some (.slice pA pn pc) := Hbx3.out 11 _ rfl
                  have q1 : w3.cell? ⟨w.heap.size, 7, none⟩ = some (.slice eA en ec) := Hbx3.out 7 _ rfl
                  go_wp2_with fail
                  clear q1
                  go_loopw [70] (fun i wr => ∃ k : Nat, k ≤ en ∧ i = .int .i64 k ∧ Hid (cmdsE m.vars true (m.env.drop k) = cmdsE m.vars true m.env) ∧ Below w3.heap.size w3 wr) (fun i _ => en - (intOf i).toNat)
                  case atStart => exact ⟨0, by omega, rfl, hide rfl, Below.refl _ _⟩
                  case round =>
                    obtain ⟨k, hk, rfl, HT, hbw⟩ := hrel
                    have hzr := hbw.size
                    by_cases hlt : k < en
                    · have hlt' : ((k : Int) < (en : Int)) := by omega
                      obtain ⟨b, off, c, eA2, hbB, hku, ⟨⟨⟨go, gn, gA, gl, gc⟩, ⟨c0, c1, c2⟩, hex⟩, ⟨tA, tn, tc⟩, c3, hrs⟩⟩ := ((Hrm3.out.2.2.2.2.1).keep (w' := wr) (fun b o y h1 hy => CmdAt.keep h1 hy (fun p hp => (hbw.mono (by omega)).cell hp))).at_ (k := k) hlt
                      simp only [SL.v] at eA2 c0 c1 c2 c3
                      subst eA2
                      have HT2 : Hid ((if cmdE m.vars c true = 0 then cmdsE m.vars true (m.env.drop (k + 1)) else cmdE m.vars c true) = cmdsE m.vars true m.env) := hide (by rw [← HT.out, drop_at hku, cmdsE])
                      clear hku HT
                      have hbA := (Below.refl wr.heap.size wr).alloc (Nat.le_refl _) (.cells #[.int .i64 go, .int .i64 gn, .slice gA gl gc, .slice tA tn tc] 71)
                      have Hrc : Hid (RC (wr.alloc (.cells #[.int .i64 go, .int .i64 gn, .slice gA gl gc, .slice tA tn tc] 71)) B ⟨⟨go, gn, gA, gl, gc⟩, ⟨tA, tn, tc⟩⟩ c) := hide (RC.below (w := wr) ⟨hex, hrs⟩ (hbA.mono (by omega)))
                      have Hrv2 := hide ((Hrm3.out.2.1.below (hbw.mono (by omega))).below (hbA.mono (by omega)))
                      have HbA := hide (hbw.trans (hbA.mono hzr))
                      have hzA : wr.heap.size + 1 ≤ (wr.alloc (.cells #[.int .i64 go, .int .i64 gn, .slice gA gl gc, .slice tA tn tc] 71)).heap.size := by simp
                      obtain ⟨⟨f0, f1, f2⟩, f3⟩ := box4 wr go gn gA gl gc tA tn tc
                      clear hex hrs hbA hbw
                      go_wp2_with fail
                      clear c0 c1 c2 c3 f0 f1 f2 f3
                      generalize wr.alloc (.cells #[.int .i64 go, .int .i64 gn, .slice gA gl gc, .slice tA tn tc] 71) = W1 at *
                      refine (rcmd_any B vA vn vc m.vars ⟨⟨go, gn, gA, gl, gc⟩, ⟨tA, tn, tc⟩⟩ c true W1 Ho.out (by omega) Hrc.out Hrv2.out).mono ?_
                      rintro e wc ⟨rfl, hbc⟩
                      have Hbc := hide (HbA.out.trans (hbc.mono (by omega)))
                      clear hbc HbA Hrc Hrv2
                      by_cases hx : cmdE m.vars c true = 0
                      · have hxb : (cmdE m.vars c true != 0) = false := by simp [hx]
                        have HT3 : Hid (cmdsE m.vars true (m.env.drop (k + 1)) = cmdsE m.vars true m.env) := hide (by have h := HT2.out; rw [if_pos hx] at h; exact h)
                        clear hx HT2
                        go_wp2_with fail
                        go_roundw
                        case rel => exact ⟨k + 1, by omega, by go_num, HT3, Hbc.out⟩
                        case measure => simp [intOf]; omega
                      · have hxb : (cmdE m.vars c true != 0) = true := by simp [hx]
                        have Hf : Hid (modE m = cmdE m.vars c true) := hide (by
                          have h := HT2.out
                          rw [if_neg hx] at h
                          rw [first_not HM.out (by rw [← h]; exact hx), ← h])
                        have Hbf := hide (Hb3.out.trans (Hbc.out.mono (by have := Hb3.out.size; omega)))
                        clear hx HT2
                        go_wp2_with fail
                        go_ret
                        exact ⟨ret_int Hf.out.symm, Hbf.out⟩
                    · have hlt' : ¬ ((k : Int) < (en : Int)) := by omega
                      have hz0' : cmdsE m.vars true m.env = 0 := by rw [← HT.out, List.drop_of_length_le (by rw [LE.out]; omega), cmdsE]
                      have HM2 := hide (first_zero HM.out hz0')
                      clear hz0' HM HT
                      have HM := HM2
                      clear HM2
                      obtain ⟨w4, rfl⟩ : ∃ w4, w4 = wr := ⟨_, rfl⟩
                      have hbn := hbw
                      clear hbw
                      have Hb4 := hide (Hb3.out.trans (hbn.mono (by omega)))
                      have Hrm4 := hide (Hrm3.out.below (hbn.mono (by omega)))
                      have Hbx4 := hide (Hbx3.out.below hbn (by omega))
                      clear hbn Hb3 Hrm3 Hbx3
                      clear r1 r2 r3 r4 r5
                      have q1 : w4.cell? ⟨w.heap.size, 8, none⟩ = some (.slice sA sn sc) := Hbx4.out 8 _ rfl
                      go_wp2_with fail
                      clear q1
                      go_loopw [84] (fun i wr => ∃ k : Nat, k ≤ sn ∧ i = .int .i64 k ∧ Hid (cmdsE m.vars false (m.sys.drop k) = cmdsE m.vars false m.sys) ∧ Below w4.heap.size w4 wr) (fun i _ => sn - (intOf i).toNat)
                      case atStart => exact ⟨0, by omega, rfl, hide rfl, Below.refl _ _⟩
                      case round =>
                        obtain ⟨k, hk, rfl, HT, hbw⟩ := hrel
                        have hzr := hbw.size
                        by_cases hlt : k < sn
                        · have hlt' : ((k : Int) < (sn : Int)) := by omega
                          obtain ⟨b, off, c, eA2, hbB, hku, ⟨⟨⟨go, gn, gA, gl, gc⟩, ⟨c0, c1, c2⟩, hex⟩, ⟨tA, tn, tc⟩, c3, hrs⟩⟩ := ((Hrm4.out.2.2.2.2.2.1).keep (w' := wr) (fun b o y h1 hy => CmdAt.keep h1 hy (fun p hp => (hbw.mono (by omega)).cell hp))).at_ (k := k) hlt
                          simp only [SL.v] at eA2 c0 c1 c2 c3
                          subst eA2
                          have HT2 : Hid ((if cmdE m.vars c false = 0 then cmdsE m.vars false (m.sys.drop (k + 1)) else cmdE m.vars c false) = cmdsE m.vars false m.sys) := hide (by rw [← HT.out, drop_at hku, cmdsE])
                          clear hku HT
                          have hbA := (Below.refl wr.heap.size wr).alloc (Nat.le_refl _) (.cells #[.int .i64 go, .int .i64 gn, .slice gA gl gc, .slice tA tn tc] 71)
                          have Hrc : Hid (RC (wr.alloc (.cells #[.int .i64 go, .int .i64 gn, .slice gA gl gc, .slice tA tn tc] 71)) B ⟨⟨go, gn, gA, gl, gc⟩, ⟨tA, tn, tc⟩⟩ c) := hide (RC.below (w := wr) ⟨hex, hrs⟩ (hbA.mono (by omega)))
                          have Hrv2 := hide ((Hrm4.out.2.1.below (hbw.mono (by omega))).below (hbA.mono (by omega)))
                          have HbA := hide (hbw.trans (hbA.mono hzr))
                          have hzA : wr.heap.size + 1 ≤ (wr.alloc (.cells #[.int .i64 go, .int .i64 gn, .slice gA gl gc, .slice tA tn tc] 71)).heap.size := by simp
                          obtain ⟨⟨f0, f1, f2⟩, f3⟩ := box4 wr go gn gA gl gc tA tn tc
                          clear hex hrs hbA hbw
                          go_wp2_with fail
                          clear c0 c1 c2 c3 f0 f1 f2 f3
                          generalize wr.alloc (.cells #[.int .i64 go, .int .i64 gn, .slice gA gl gc, .slice tA tn tc] 71) = W1 at *
                          refine (rcmd_any B vA vn vc m.vars ⟨⟨go, gn, gA, gl, gc⟩, ⟨tA, tn, tc⟩⟩ c false W1 Ho.out (by omega) Hrc.out Hrv2.out).mono ?_
                          rintro e wc ⟨rfl, hbc⟩
                          have Hbc := hide (HbA.out.trans (hbc.mono (by omega)))
                          clear hbc HbA Hrc Hrv2
                          by_cases hx : cmdE m.vars c false = 0
                          · have hxb : (cmdE m.vars c false != 0) = false := by simp [hx]
                            have HT3 : Hid (cmdsE m.vars false (m.sys.drop (k + 1)) = cmdsE m.vars false m.sys) := hide (by have h := HT2.out; rw [if_pos hx] at h; exact h)
                            clear hx HT2
                            go_wp2_with fail
                            go_roundw
                            case rel => exact ⟨k + 1, by omega, by go_num, HT3, Hbc.out⟩
                            case measure => simp [intOf]; omega
                          · have hxb : (cmdE m.vars c false != 0) = true := by simp [hx]
                            have Hf : Hid (modE m = cmdE m.vars c false) := hide (by
                              have h := HT2.out
                              rw [if_neg hx] at h
                              rw [first_not HM.out (by rw [← h]; exact hx), ← h])
                            have Hbf := hide (Hb4.out.trans (Hbc.out.mono (by have := Hb4.out.size; omega)))
                            clear hx HT2
                            go_wp2_with fail
                            go_ret
                            exact ⟨ret_int Hf.out.symm, Hbf.out⟩
                        · have hlt' : ¬ ((k : Int) < (sn : Int)) := by omega
                          have hz0' : cmdsE m.vars false m.sys = 0 := by rw [← HT.out, List.drop_of_length_le (by rw [LS.out]; omega), cmdsE]
                          have HM2 := hide (first_zero HM.out hz0')
                          clear hz0' HM HT
                          have HM := HM2
                          clear HM2
                          obtain ⟨w5, rfl⟩ : ∃ w5, w5 = wr := ⟨_, rfl⟩
                          have hbn := hbw
                          clear hbw
                          have Hb5 := hide (Hb4.out.trans (hbn.mono (by omega)))
                          have Hrm5 := hide (Hrm4.out.below (hbn.mono (by omega)))
                          have Hbx5 := hide (Hbx4.out.below hbn (by omega))
                          clear hbn Hb4 Hrm4 Hbx4
                          have r3 : w5.cell? ⟨w.heap.size, 9, none⟩ = some (.slice aA an ac) := Hbx5.out 9 _ rfl
                          have r4 : w5.cell? ⟨w.heap.size, 10, none⟩ = some (.slice nA nn nc) := Hbx5.out 10 _ rfl
                          have r5 : w5.cell? ⟨w.heap.size, 11, none⟩ = some (.slice pA pn pc) := Hbx5.out 11 _ rfl
                          by_cases hboth : 0 < pn ∧ 0 < an + nn
                          · have hp1 : decide ((0 : Int) < (pn : Int)) = true := by simp; omega
                            have hp2 : decide (0 < pn) = true := by simp; omega
                            have hq1 : decide ((0 : Int) < (an : Int) + (nn : Int)) = true := by simp; omega
                            have hb1 : bothE m = 1 := by
                              unfold bothE
                              rw [if_pos (by rw [LP.out, LA.out, LN.out]; exact hboth)]
                            have Hf : Hid (modE m = 1) := hide ((first_not HM.out (by rw [hb1]; omega)).trans hb1)
                            clear hb1 HM
                            go_wp2_with fail
                            go_ret
                            exact ⟨ret_int Hf.out.symm, Hb5.out⟩
                          · have hb0 : bothE m = 0 := by
                              unfold bothE
                              rw [if_neg (by rw [LP.out, LA.out, LN.out]; exact hboth)]
                            have HM2 := hide (first_zero HM.out hb0)
                            clear hb0 HM
                            have hgo : decide (0 < pn) = false ∨ (decide (0 < pn) = true ∧ decide ((0 : Int) < (an : Int) + (nn : Int)) = false) := by
                              by_cases h : 0 < pn
                              · right; simp; omega
                              · left; simp; omega
                            rcases hgo with hp2 | ⟨hp2, hq1⟩
                            · have hp1 : decide ((0 : Int) < (pn : Int)) = false := by simp at hp2 ⊢; omega
                              go_wp2_with fail
                              clear r3 r4 r5
                              go_loopw [116] (fun i wr => ((i = .int .i64 0 ∧ Hid (modE m = firstE [goalsE m.vars m.asm, goalsE m.vars m.ens, goalsE m.vars m.prio])) ∨ (i = .int .i64 1 ∧ Hid (modE m = firstE [goalsE m.vars m.ens, goalsE m.vars m.prio])) ∨ (i = .int .i64 2 ∧ Hid (modE m = firstE [goalsE m.vars m.prio])) ∨ (i = .int .i64 3 ∧ Hid (modE m = firstE []))) ∧ Below w5.heap.size w5 wr) (fun i _ => 3 - (intOf i).toNat)
                              case atStart => exact ⟨.inl ⟨rfl, HM2⟩, Below.refl _ _⟩
                              case round =>
                                obtain ⟨hi, hbo⟩ := hrel
                                rcases hi with ⟨rfl, HMo⟩ | ⟨rfl, HMo⟩ | ⟨rfl, HMo⟩ | ⟨rfl, HMo⟩
                                · have hix : ∀ w : World, (Instr.index 88 (.agg #[.slice aA an ac, .slice nA nn nc, .slice pA pn pc]) (.int .i64 0)).run Tryz.prog w = .ok (.slice aA an ac) w := by
                                    intro w
                                    kernel_rfl
                                  obtain ⟨wo, rfl⟩ : ∃ wo, wo = wr := ⟨_, rfl⟩
                                  go_wp2_with fail
                                  clear hix
                                  go_loopw [121] (fun i wr => ∃ k : Nat, k ≤ an ∧ i = .int .i64 k ∧ Hid (goalsE m.vars (m.asm.drop k) = goalsE m.vars m.asm) ∧ Below w5.heap.size w5 wr) (fun i _ => an - (intOf i).toNat)
                                  case atStart => exact ⟨0, by omega, rfl, hide rfl, hbo⟩
                                  case round =>
                                    obtain ⟨k, hk, rfl, HT, hbw⟩ := hrel
                                    have hzr := hbw.size
                                    by_cases hlt : k < an
                                    · have hlt' : ((k : Int) < (an : Int)) := by omega
                                      obtain ⟨b, off, te, eA2, hbB, hku, ⟨⟨go, gn, gA, gl, gc⟩, ⟨c0, c1, c2⟩, ⟨dg, hex⟩⟩⟩ := ((Hrm5.out.2.2.2.2.2.2.1).keep (w' := wr) (fun b o y h1 hy => ExAt.keep h1 hy (fun p hp => (hbw.mono (by omega)).cell hp))).at_ (k := k) hlt
                                      simp only at eA2 c0 c1 c2 hex
                                      subst eA2
                                      have HT2 : Hid ((if needE m.vars te 1 true false false = 0 then goalsE m.vars (m.asm.drop (k + 1)) else needE m.vars te 1 true false false) = goalsE m.vars m.asm) := hide (by rw [← HT.out, drop_at hku, goalsE])
                                      clear hku HT
                                      have hbA := (Below.refl wr.heap.size wr).alloc (Nat.le_refl _) (.cells #[.int .i64 go, .int .i64 gn, .slice gA gl gc] 25)
                                      have Hex := hide (hex.below (hbA.mono (by omega)))
                                      have Hrv2 := hide ((Hrm5.out.2.1.below (hbw.mono (by omega))).below (hbA.mono (by omega)))
                                      have HbA := hide (hbw.trans (hbA.mono hzr))
                                      have hzA : wr.heap.size + 1 ≤ (wr.alloc (.cells #[.int .i64 go, .int .i64 gn, .slice gA gl gc] 25)).heap.size := by simp
                                      obtain ⟨f0, f1, f2⟩ := box_new wr go gn gA gl gc 25
                                      clear hex hbA hbw
                                      go_wp2_with fail
                                      clear c0 c1 c2 f0 f1 f2
                                      generalize wr.alloc (.cells #[.int .i64 go, .int .i64 gn, .slice gA gl gc] 25) = W1 at *
                                      refine (rneeds_any B vA vn vc m.vars dg go gn gA gl gc te 1 true false false W1 Ho.out.1 Ho.out.2.1 Ho.out.2.2.1 (by omega) Hex.out Hrv2.out Ho.out.2.2.2).mono ?_
                                      rintro e wc ⟨rfl, hbc⟩
                                      have Hbc := hide (HbA.out.trans (hbc.mono (by omega)))
                                      clear hbc HbA Hex Hrv2
                                      by_cases hx : needE m.vars te 1 true false false = 0
                                      · have hxb : (needE m.vars te 1 true false false != 0) = false := by simp [hx]
                                        have HT3 : Hid (goalsE m.vars (m.asm.drop (k + 1)) = goalsE m.vars m.asm) := hide (by have h := HT2.out; rw [if_pos hx] at h; exact h)
                                        clear hx HT2
                                        go_wp2_with fail
                                        go_roundw
                                        case rel => exact ⟨k + 1, by omega, by go_num, HT3, Hbc.out⟩
                                        case measure => simp [intOf]; omega
                                      · have hxb : (needE m.vars te 1 true false false != 0) = true := by simp [hx]
                                        have Hf : Hid (modE m = needE m.vars te 1 true false false) := hide (by
                                          have h := HT2.out
                                          rw [if_neg hx] at h
                                          rw [first_not HMo.out (by rw [← h]; exact hx), ← h])
                                        have Hbf := hide (Hb5.out.trans (Hbc.out.mono (by have := Hb5.out.size; omega)))
                                        clear hx HT2
                                        go_wp2_with fail
                                        go_ret
                                        exact ⟨ret_int Hf.out.symm, Hbf.out⟩
                                    · have hlt' : ¬ ((k : Int) < (an : Int)) := by omega
                                      have hz0' : goalsE m.vars m.asm = 0 := by rw [← HT.out, List.drop_of_length_le (by rw [LA.out]; omega), goalsE]
                                      have HN := hide (first_zero HMo.out hz0')
                                      clear hz0' HT
                                      go_wp2_with fail
                                      go_roundw
                                      case rel => exact ⟨.inr (.inl ⟨rfl, HN⟩), hbw⟩
                                      case measure => simp [intOf]
                                · have hix : ∀ w : World, (Instr.index 88 (.agg #[.slice aA an ac, .slice nA nn nc, .slice pA pn pc]) (.int .i64 1)).run Tryz.prog w = .ok (.slice nA nn nc) w := by
                                    intro w
                                    kernel_rfl
                                  obtain ⟨wo, rfl⟩ : ∃ wo, wo = wr := ⟨_, rfl⟩
                                  go_wp2_with fail
                                  clear hix
                                  go_loopw [121] (fun i wr => ∃ k : Nat, k ≤ nn ∧ i = .int .i64 k ∧ Hid (goalsE m.vars (m.ens.drop k) = goalsE m.vars m.ens) ∧ Below w5.heap.size w5 wr) (fun i _ => nn - (intOf i).toNat)
                                  case atStart => exact ⟨0, by omega, rfl, hide rfl, hbo⟩
                                  case round =>
                                    obtain ⟨k, hk, rfl, HT, hbw⟩ := hrel
                                    have hzr := hbw.size
                                    by_cases hlt : k < nn
                                    · have hlt' : ((k : Int) < (nn : Int)) := by omega
                                      obtain ⟨b, off, te, eA2, hbB, hku, ⟨⟨go, gn, gA, gl, gc⟩, ⟨c0, c1, c2⟩, ⟨dg, hex⟩⟩⟩ := ((Hrm5.out.2.2.2.2.2.2.2.1).keep (w' := wr) (fun b o y h1 hy => ExAt.keep h1 hy (fun p hp => (hbw.mono (by omega)).cell hp))).at_ (k := k) hlt
                                      simp only at eA2 c0 c1 c2 hex
                                      subst eA2
                                      have HT2 : Hid ((if needE m.vars te 1 true false false = 0 then goalsE m.vars (m.ens.drop (k + 1)) else needE m.vars te 1 true false false) = goalsE m.vars m.ens) := hide (by rw [← HT.out, drop_at hku, goalsE])
                                      clear hku HT
                                      have hbA := (Below.refl wr.heap.size wr).alloc (Nat.le_refl _) (.cells #[.int .i64 go, .int .i64 gn, .slice gA gl gc] 25)
                                      have Hex := hide (hex.below (hbA.mono (by omega)))
                                      have Hrv2 := hide ((Hrm5.out.2.1.below (hbw.mono (by omega))).below (hbA.mono (by omega)))
                                      have HbA := hide (hbw.trans (hbA.mono hzr))
                                      have hzA : wr.heap.size + 1 ≤ (wr.alloc (.cells #[.int .i64 go, .int .i64 gn, .slice gA gl gc] 25)).heap.size := by simp
                                      obtain ⟨f0, f1, f2⟩ := box_new wr go gn gA gl gc 25
                                      clear hex hbA hbw
                                      go_wp2_with fail
                                      clear c0 c1 c2 f0 f1 f2
                                      generalize wr.alloc (.cells #[.int .i64 go, .int .i64 gn, .slice gA gl gc] 25) = W1 at *
                                      refine (rneeds_any B vA vn vc m.vars dg go gn gA gl gc te 1 true false false W1 Ho.out.1 Ho.out.2.1 Ho.out.2.2.1 (by omega) Hex.out Hrv2.out Ho.out.2.2.2).mono ?_
                                      rintro e wc ⟨rfl, hbc⟩
                                      have Hbc := hide (HbA.out.trans (hbc.mono (by omega)))
                                      clear hbc HbA Hex Hrv2
                                      by_cases hx : needE m.vars te 1 true false false = 0
                                      · have hxb : (needE m.vars te 1 true false false != 0) = false := by simp [hx]
                                        have HT3 : Hid (goalsE m.vars (m.ens.drop (k + 1)) = goalsE m.vars m.ens) := hide (by have h := HT2.out; rw [if_pos hx] at h; exact h)
                                        clear hx HT2
                                        go_wp2_with fail
                                        go_roundw
                                        case rel => exact ⟨k + 1, by omega, by go_num, HT3, Hbc.out⟩
                                        case measure => simp [intOf]; omega
                                      · have hxb : (needE m.vars te 1 true false false != 0) = true := by simp [hx]
                                        have Hf : Hid (modE m = needE m.vars te 1 true false false) := hide (by
                                          have h := HT2.out
                                          rw [if_neg hx] at h
                                          rw [first_not HMo.out (by rw [← h]; exact hx), ← h])
                                        have Hbf := hide (Hb5.out.trans (Hbc.out.mono (by have := Hb5.out.size; omega)))
                                        clear hx HT2
                                        go_wp2_with fail
                                        go_ret
                                        exact ⟨ret_int Hf.out.symm, Hbf.out⟩
                                    · have hlt' : ¬ ((k : Int) < (nn : Int)) := by omega
                                      have hz0' : goalsE m.vars m.ens = 0 := by rw [← HT.out, List.drop_of_length_le (by rw [LN.out]; omega), goalsE]
                                      have HN := hide (first_zero HMo.out hz0')
                                      clear hz0' HT
                                      go_wp2_with fail
                                      go_roundw
                                      case rel => exact ⟨.inr (.inr (.inl ⟨rfl, HN⟩)), hbw⟩
                                      case measure => simp [intOf]
                                · have hix : ∀ w : World, (Instr.index 88 (.agg #[.slice aA an ac, .slice nA nn nc, .slice pA pn pc]) (.int .i64 2)).run Tryz.prog w = .ok (.slice pA pn pc) w := by
                                    intro w
                                    kernel_rfl
                                  obtain ⟨wo, rfl⟩ : ∃ wo, wo = wr := ⟨_, rfl⟩
                                  go_wp2_with fail
                                  clear hix
                                  go_loopw [121] (fun i wr => ∃ k : Nat, k ≤ pn ∧ i = .int .i64 k ∧ Hid (goalsE m.vars (m.prio.drop k) = goalsE m.vars m.prio) ∧ Below w5.heap.size w5 wr) (fun i _ => pn - (intOf i).toNat)
                                  case atStart => exact ⟨0, by omega, rfl, hide rfl, hbo⟩
                                  case round =>
                                    obtain ⟨k, hk, rfl, HT, hbw⟩ := hrel
                                    have hzr := hbw.size
                                    by_cases hlt : k < pn
                                    · have hlt' : ((k : Int) < (pn : Int)) := by omega
                                      obtain ⟨b, off, te, eA2, hbB, hku, ⟨⟨go, gn, gA, gl, gc⟩, ⟨c0, c1, c2⟩, ⟨dg, hex⟩⟩⟩ := ((Hrm5.out.2.2.2.2.2.2.2.2).keep (w' := wr) (fun b o y h1 hy => ExAt.keep h1 hy (fun p hp => (hbw.mono (by omega)).cell hp))).at_ (k := k) hlt
                                      simp only at eA2 c0 c1 c2 hex
                                      subst eA2
                                      have HT2 : Hid ((if needE m.vars te 1 true false false = 0 then goalsE m.vars (m.prio.drop (k + 1)) else needE m.vars te 1 true false false) = goalsE m.vars m.prio) := hide (by rw [← HT.out, drop_at hku, goalsE])
                                      clear hku HT
                                      have hbA := (Below.refl wr.heap.size wr).alloc (Nat.le_refl _) (.cells #[.int .i64 go, .int .i64 gn, .slice gA gl gc] 25)
                                      have Hex := hide (hex.below (hbA.mono (by omega)))
                                      have Hrv2 := hide ((Hrm5.out.2.1.below (hbw.mono (by omega))).below (hbA.mono (by omega)))
                                      have HbA := hide (hbw.trans (hbA.mono hzr))
                                      have hzA : wr.heap.size + 1 ≤ (wr.alloc (.cells #[.int .i64 go, .int .i64 gn, .slice gA gl gc] 25)).heap.size := by simp
                                      obtain ⟨f0, f1, f2⟩ := box_new wr go gn gA gl gc 25
                                      clear hex hbA hbw
                                      go_wp2_with fail
                                      clear c0 c1 c2 f0 f1 f2
                                      generalize wr.alloc (.cells #[.int .i64 go, .int .i64 gn, .slice gA gl gc] 25) = W1 at *
                                      refine (rneeds_any B vA vn vc m.vars dg go gn gA gl gc te 1 true false false W1 Ho.out.1 Ho.out.2.1 Ho.out.2.2.1 (by omega) Hex.out Hrv2.out Ho.out.2.2.2).mono ?_
                                      rintro e wc ⟨rfl, hbc⟩
                                      have Hbc := hide (HbA.out.trans (hbc.mono (by omega)))
                                      clear hbc HbA Hex Hrv2
                                      by_cases hx : needE m.vars te 1 true false false = 0
                                      · have hxb : (needE m.vars te 1 true false false != 0) = false := by simp [hx]
                                        have HT3 : Hid (goalsE m.vars (m.prio.drop (k + 1)) = goalsE m.vars m.prio) := hide (by have h := HT2.out; rw [if_pos hx] at h; exact h)
                                        clear hx HT2
                                        go_wp2_with fail
                                        go_roundw
                                        case rel => exact ⟨k + 1, by omega, by go_num, HT3, Hbc.out⟩
                                        case measure => simp [intOf]; omega
                                      · have hxb : (needE m.vars te 1 true false false != 0) = true := by simp [hx]
                                        have Hf : Hid (modE m = needE m.vars te 1 true false false) := hide (by
                                          have h := HT2.out
                                          rw [if_neg hx] at h
                                          rw [first_not HMo.out (by rw [← h]; exact hx), ← h])
                                        have Hbf := hide (Hb5.out.trans (Hbc.out.mono (by have := Hb5.out.size; omega)))
                                        clear hx HT2
                                        go_wp2_with fail
                                        go_ret
                                        exact ⟨ret_int Hf.out.symm, Hbf.out⟩
                                    · have hlt' : ¬ ((k : Int) < (pn : Int)) := by omega
                                      have hz0' : goalsE m.vars m.prio = 0 := by rw [← HT.out, List.drop_of_length_le (by rw [LP.out]; omega), goalsE]
                                      have HN := hide (first_zero HMo.out hz0')
                                      clear hz0' HT
                                      go_wp2_with fail
                                      go_roundw
                                      case rel => exact ⟨.inr (.inr (.inr ⟨rfl, HN⟩)), hbw⟩
                                      case measure => simp [intOf]
                                · have Hf : Hid (modE m = 0) := hide HMo.out
                                  have Hbf := hide (Hb5.out.trans (hbo.mono (by have := Hb5.out.size; omega)))
                                  go_wp2_with fail
                                  go_ret
                                  exact ⟨ret_int Hf.out.symm, Hbf.out⟩
                            · have hp1 : decide ((0 : Int) < (pn : Int)) = true := by simp at hp2 ⊢; omega
                              go_wp2_with fail
                              clear r3 r4 r5
                              go_loopw [116] (fun i wr => ((i = .int .i64 0 ∧ Hid (modE m = firstE [goalsE m.vars m.asm, goalsE m.vars m.ens, goalsE m.vars m.prio])) ∨ (i = .int .i64 1 ∧ Hid (modE m = firstE [goalsE m.vars m.ens, goalsE m.vars m.prio])) ∨ (i = .int .i64 2 ∧ Hid (modE m = firstE [goalsE m.vars m.prio])) ∨ (i = .int .i64 3 ∧ Hid (modE m = firstE []))) ∧ Below w5.heap.size w5 wr) (fun i _ => 3 - (intOf i).toNat)
                              case atStart => exact ⟨.inl ⟨rfl, HM2⟩, Below.refl _ _⟩
                              case round =>
                                obtain ⟨hi, hbo⟩ := hrel
                                rcases hi with ⟨rfl, HMo⟩ | ⟨rfl, HMo⟩ | ⟨rfl, HMo⟩ | ⟨rfl, HMo⟩
                                · have hix : ∀ w : World, (Instr.index 88 (.agg #[.slice aA an ac, .slice nA nn nc, .slice pA pn pc]) (.int .i64 0)).run Tryz.prog w = .ok (.slice aA an ac) w := by
                                    intro w
                                    kernel_rfl
                                  obtain ⟨wo, rfl⟩ : ∃ wo, wo = wr := ⟨_, rfl⟩
                                  go_wp2_with fail
                                  clear hix
                                  go_loopw [121] (fun i wr => ∃ k : Nat, k ≤ an ∧ i = .int .i64 k ∧ Hid (goalsE m.vars (m.asm.drop k) = goalsE m.vars m.asm) ∧ Below w5.heap.size w5 wr) (fun i _ => an - (intOf i).toNat)
                                  case atStart => exact ⟨0, by omega, rfl, hide rfl, hbo⟩
                                  case round =>
                                    obtain ⟨k, hk, rfl, HT, hbw⟩ := hrel
                                    have hzr := hbw.size
                                    by_cases hlt : k < an
                                    · have hlt' : ((k : Int) < (an : Int)) := by omega
                                      obtain ⟨b, off, te, eA2, hbB, hku, ⟨⟨go, gn, gA, gl, gc⟩, ⟨c0, c1, c2⟩, ⟨dg, hex⟩⟩⟩ := ((Hrm5.out.2.2.2.2.2.2.1).keep (w' := wr) (fun b o y h1 hy => ExAt.keep h1 hy (fun p hp => (hbw.mono (by omega)).cell hp))).at_ (k := k) hlt
                                      simp only at eA2 c0 c1 c2 hex
                                      subst eA2
                                      have HT2 : Hid ((if needE m.vars te 1 true false false = 0 then goalsE m.vars (m.asm.drop (k + 1)) else needE m.vars te 1 true false false) = goalsE m.vars m.asm) := hide (by rw [← HT.out, drop_at hku, goalsE])
                                      clear hku HT
                                      have hbA := (Below.refl wr.heap.size wr).alloc (Nat.le_refl _) (.cells #[.int .i64 go, .int .i64 gn, .slice gA gl gc] 25)
                                      have Hex := hide (hex.below (hbA.mono (by omega)))
                                      have Hrv2 := hide ((Hrm5.out.2.1.below (hbw.mono (by omega))).below (hbA.mono (by omega)))
                                      have HbA := hide (hbw.trans (hbA.mono hzr))
                                      have hzA : wr.heap.size + 1 ≤ (wr.alloc (.cells #[.int .i64 go, .int .i64 gn, .slice gA gl gc] 25)).heap.size := by simp
                                      obtain ⟨f0, f1, f2⟩ := box_new wr go gn gA gl gc 25
                                      clear hex hbA hbw
                                      go_wp2_with fail
                                      clear c0 c1 c2 f0 f1 f2
                                      generalize wr.alloc (.cells #[.int .i64 go, .int .i64 gn, .slice gA gl gc] 25) = W1 at *
                                      refine (rneeds_any B vA vn vc m.vars dg go gn gA gl gc te 1 true false false W1 Ho.out.1 Ho.out.2.1 Ho.out.2.2.1 (by omega) Hex.out Hrv2.out Ho.out.2.2.2).mono ?_
                                      rintro e wc ⟨rfl, hbc⟩
                                      have Hbc := hide (HbA.out.trans (hbc.mono (by omega)))
                                      clear hbc HbA Hex Hrv2
                                      by_cases hx : needE m.vars te 1 true false false = 0
                                      · have hxb : (needE m.vars te 1 true false false != 0) = false := by simp [hx]
                                        have HT3 : Hid (goalsE m.vars (m.asm.drop (k + 1)) = goalsE m.vars m.asm) := hide (by have h := HT2.out; rw [if_pos hx] at h; exact h)
                                        clear hx HT2
                                        go_wp2_with fail
                                        go_roundw
                                        case rel => exact ⟨k + 1, by omega, by go_num, HT3, Hbc.out⟩
                                        case measure => simp [intOf]; omega
                                      · have hxb : (needE m.vars te 1 true false false != 0) = true := by simp [hx]
                                        have Hf : Hid (modE m = needE m.vars te 1 true false false) := hide (by
                                          have h := HT2.out
                                          rw [if_neg hx] at h
                                          rw [first_not HMo.out (by rw [← h]; exact hx), ← h])
                                        have Hbf := hide (Hb5.out.trans (Hbc.out.mono (by have := Hb5.out.size; omega)))
                                        clear hx HT2
                                        go_wp2_with fail
                                        go_ret
                                        exact ⟨ret_int Hf.out.symm, Hbf.out⟩
                                    · have hlt' : ¬ ((k : Int) < (an : Int)) := by omega
                                      have hz0' : goalsE m.vars m.asm = 0 := by rw [← HT.out, List.drop_of_length_le (by rw [LA.out]; omega), goalsE]
                                      have HN := hide (first_zero HMo.out hz0')
                                      clear hz0' HT
                                      go_wp2_with fail
                                      go_roundw
                                      case rel => exact ⟨.inr (.inl ⟨rfl, HN⟩), hbw⟩
                                      case measure => simp [intOf]
                                · have hix : ∀ w : World, (Instr.index 88 (.agg #[.slice aA an ac, .slice nA nn nc, .slice pA pn pc]) (.int .i64 1)).run Tryz.prog w = .ok (.slice nA nn nc) w := by
                                    intro w
                                    kernel_rfl
                                  obtain ⟨wo, rfl⟩ : ∃ wo, wo = wr := ⟨_, rfl⟩
                                  go_wp2_with fail
                                  clear hix
                                  go_loopw [121] (fun i wr => ∃ k : Nat, k ≤ nn ∧ i = .int .i64 k ∧ Hid (goalsE m.vars (m.ens.drop k) = goalsE m.vars m.ens) ∧ Below w5.heap.size w5 wr) (fun i _ => nn - (intOf i).toNat)
                                  case atStart => exact ⟨0, by omega, rfl, hide rfl, hbo⟩
                                  case round =>
                                    obtain ⟨k, hk, rfl, HT, hbw⟩ := hrel
                                    have hzr := hbw.size
                                    by_cases hlt : k < nn
                                    · have hlt' : ((k : Int) < (nn : Int)) := by omega
                                      obtain ⟨b, off, te, eA2, hbB, hku, ⟨⟨go, gn, gA, gl, gc⟩, ⟨c0, c1, c2⟩, ⟨dg, hex⟩⟩⟩ := ((Hrm5.out.2.2.2.2.2.2.2.1).keep (w' := wr) (fun b o y h1 hy => ExAt.keep h1 hy (fun p hp => (hbw.mono (by omega)).cell hp))).at_ (k := k) hlt
                                      simp only at eA2 c0 c1 c2 hex
                                      subst eA2
                                      have HT2 : Hid ((if needE m.vars te 1 true false false = 0 then goalsE m.vars (m.ens.drop (k + 1)) else needE m.vars te 1 true false false) = goalsE m.vars m.ens) := hide (by rw [← HT.out, drop_at hku, goalsE])
                                      clear hku HT
                                      have hbA := (Below.refl wr.heap.size wr).alloc (Nat.le_refl _) (.cells #[.int .i64 go, .int .i64 gn, .slice gA gl gc] 25)
                                      have Hex := hide (hex.below (hbA.mono (by omega)))
                                      have Hrv2 := hide ((Hrm5.out.2.1.below (hbw.mono (by omega))).below (hbA.mono (by omega)))
                                      have HbA := hide (hbw.trans (hbA.mono hzr))
                                      have hzA : wr.heap.size + 1 ≤ (wr.alloc (.cells #[.int .i64 go, .int .i64 gn, .slice gA gl gc] 25)).heap.size := by simp
                                      obtain ⟨f0, f1, f2⟩ := box_new wr go gn gA gl gc 25
                                      clear hex hbA hbw
                                      go_wp2_with fail
                                      clear c0 c1 c2 f0 f1 f2
                                      generalize wr.alloc (.cells #[.int .i64 go, .int .i64 gn, .slice gA gl gc] 25) = W1 at *
                                      refine (rneeds_any B vA vn vc m.vars dg go gn gA gl gc te 1 true false false W1 Ho.out.1 Ho.out.2.1 Ho.out.2.2.1 (by omega) Hex.out Hrv2.out Ho.out.2.2.2).mono ?_
                                      rintro e wc ⟨rfl, hbc⟩
                                      have Hbc := hide (HbA.out.trans (hbc.mono (by omega)))
                                      clear hbc HbA Hex Hrv2
                                      by_cases hx : needE m.vars te 1 true false false = 0
                                      · have hxb : (needE m.vars te 1 true false false != 0) = false := by simp [hx]
                                        have HT3 : Hid (goalsE m.vars (m.ens.drop (k + 1)) = goalsE m.vars m.ens) := hide (by have h := HT2.out; rw [if_pos hx] at h; exact h)
                                        clear hx HT2
                                        go_wp2_with fail
                                        go_roundw
                                        case rel => exact ⟨k + 1, by omega, by go_num, HT3, Hbc.out⟩
                                        case measure => simp [intOf]; omega
                                      · have hxb : (needE m.vars te 1 true false false != 0) = true := by simp [hx]
                                        have Hf : Hid (modE m = needE m.vars te 1 true false false) := hide (by
                                          have h := HT2.out
                                          rw [if_neg hx] at h
                                          rw [first_not HMo.out (by rw [← h]; exact hx), ← h])
                                        have Hbf := hide (Hb5.out.trans (Hbc.out.mono (by have := Hb5.out.size; omega)))
                                        clear hx HT2
                                        go_wp2_with fail
                                        go_ret
                                        exact ⟨ret_int Hf.out.symm, Hbf.out⟩
                                    · have hlt' : ¬ ((k : Int) < (nn : Int)) := by omega
                                      have hz0' : goalsE m.vars m.ens = 0 := by rw [← HT.out, List.drop_of_length_le (by rw [LN.out]; omega), goalsE]
                                      have HN := hide (first_zero HMo.out hz0')
                                      clear hz0' HT
                                      go_wp2_with fail
                                      go_roundw
                                      case rel => exact ⟨.inr (.inr (.inl ⟨rfl, HN⟩)), hbw⟩
                                      case measure => simp [intOf]
                                · have hix : ∀ w : World, (Instr.index 88 (.agg #[.slice aA an ac, .slice nA nn nc, .slice pA pn pc]) (.int .i64 2)).run Tryz.prog w = .ok (.slice pA pn pc) w := by
                                    intro w
                                    kernel_rfl
                                  obtain ⟨wo, rfl⟩ : ∃ wo, wo = wr := ⟨_, rfl⟩
                                  go_wp2_with fail
                                  clear hix
                                  go_loopw [121] (fun i wr => ∃ k : Nat, k ≤ pn ∧ i = .int .i64 k ∧ Hid (goalsE m.vars (m.prio.drop k) = goalsE m.vars m.prio) ∧ Below w5.heap.size w5 wr) (fun i _ => pn - (intOf i).toNat)
                                  case atStart => exact ⟨0, by omega, rfl, hide rfl, hbo⟩
                                  case round =>
                                    obtain ⟨k, hk, rfl, HT, hbw⟩ := hrel
                                    have hzr := hbw.size
                                    by_cases hlt : k < pn
                                    · have hlt' : ((k : Int) < (pn : Int)) := by omega
                                      obtain ⟨b, off, te, eA2, hbB, hku, ⟨⟨go, gn, gA, gl, gc⟩, ⟨c0, c1, c2⟩, ⟨dg, hex⟩⟩⟩ := ((Hrm5.out.2.2.2.2.2.2.2.2).keep (w' := wr) (fun b o y h1 hy => ExAt.keep h1 hy (fun p hp => (hbw.mono (by omega)).cell hp))).at_ (k := k) hlt
                                      simp only at eA2 c0 c1 c2 hex
                                      subst eA2
                                      have HT2 : Hid ((if needE m.vars te 1 true false false = 0 then goalsE m.vars (m.prio.drop (k + 1)) else needE m.vars te 1 true false false) = goalsE m.vars m.prio) := hide (by rw [← HT.out, drop_at hku, goalsE])
                                      clear hku HT
                                      have hbA := (Below.refl wr.heap.size wr).alloc (Nat.le_refl _) (.cells #[.int .i64 go, .int .i64 gn, .slice gA gl gc] 25)
                                      have Hex := hide (hex.below (hbA.mono (by omega)))
                                      have Hrv2 := hide ((Hrm5.out.2.1.below (hbw.mono (by omega))).below (hbA.mono (by omega)))
                                      have HbA := hide (hbw.trans (hbA.mono hzr))
                                      have hzA : wr.heap.size + 1 ≤ (wr.alloc (.cells #[.int .i64 go, .int .i64 gn, .slice gA gl gc] 25)).heap.size := by simp
                                      obtain ⟨f0, f1, f2⟩ := box_new wr go gn gA gl gc 25
                                      clear hex hbA hbw
                                      go_wp2_with fail
                                      clear c0 c1 c2 f0 f1 f2
                                      generalize wr.alloc (.cells #[.int .i64 go, .int .i64 gn, .slice gA gl gc] 25) = W1 at *
                                      refine (rneeds_any B vA vn vc m.vars dg go gn gA gl gc te 1 true false false W1 Ho.out.1 Ho.out.2.1 Ho.out.2.2.1 (by omega) Hex.out Hrv2.out Ho.out.2.2.2).mono ?_
                                      rintro e wc ⟨rfl, hbc⟩
                                      have Hbc := hide (HbA.out.trans (hbc.mono (by omega)))
                                      clear hbc HbA Hex Hrv2
                                      by_cases hx : needE m.vars te 1 true false false = 0
                                      · have hxb : (needE m.vars te 1 true false false != 0) = false := by simp [hx]
                                        have HT3 : Hid (goalsE m.vars (m.prio.drop (k + 1)) = goalsE m.vars m.prio) := hide (by have h := HT2.out; rw [if_pos hx] at h; exact h)
                                        clear hx HT2
                                        go_wp2_with fail
                                        go_roundw
                                        case rel => exact ⟨k + 1, by omega, by go_num, HT3, Hbc.out⟩
                                        case measure => simp [intOf]; omega
                                      · have hxb : (needE m.vars te 1 true false false != 0) = true := by simp [hx]
                                        have Hf : Hid (modE m = needE m.vars te 1 true false false) := hide (by
                                          have h := HT2.out
                                          rw [if_neg hx] at h
                                          rw [first_not HMo.out (by rw [← h]; exact hx), ← h])
                                        have Hbf := hide (Hb5.out.trans (Hbc.out.mono (by have := Hb5.out.size; omega)))
                                        clear hx HT2
                                        go_wp2_with fail
                                        go_ret
                                        exact ⟨ret_int Hf.out.symm, Hbf.out⟩
                                    · have hlt' : ¬ ((k : Int) < (pn : Int)) := by omega
                                      have hz0' : goalsE m.vars m.prio = 0 := by rw [← HT.out, List.drop_of_length_le (by rw [LP.out]; omega), goalsE]
                                      have HN := hide (first_zero HMo.out hz0')
                                      clear hz0' HT
                                      go_wp2_with fail
                                      go_roundw
                                      case rel => exact ⟨.inr (.inr (.inr ⟨rfl, HN⟩)), hbw⟩
                                      case measure => simp [intOf]
                                · have Hf : Hid (modE m = 0) := hide HMo.out
                                  have Hbf := hide (Hb5.out.trans (hbo.mono (by have := Hb5.out.size; omega)))
                                  go_wp2_with fail
                                  go_ret
                                  exact ⟨ret_int Hf.out.symm, Hbf.out⟩
      · have hxb : (needE m.vars m.is 1 true false false != 0) = true := by simp [hx]
        have Hf := hide (first_not HM.out hx)
        clear hx HM
        go_wp2_with fail
        go_ret
        exact ⟨ret_int Hf.out.symm, Hb3.out⟩
    · have hxb : (needE m.vars m.ie 1 false false false != 0) = true := by simp [hx]
      have Hf := hide (first_not HM.out hx)
      clear hx HM
      go_wp2_with fail
      go_ret
      exact ⟨ret_int Hf.out.symm, Hb2.out⟩
  · have hxb : (Dom.mayL m.vars != 0) = true := by simp [hx]
    have Hf := hide (first_not HM.out hx)
    clear hx HM
    go_wp2_with fail
    go_ret
    exact ⟨ret_int Hf.out.symm, Hb1.out⟩
end Go.Proofs.YtbppdalfcldodaaGreat
