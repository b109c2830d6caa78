/- Commands and modules as data: what may be, and when two are the same. -/
import Derived.Test.YtddbplgcglgloaaMSort
import Derived.Test.YtddbplgcglgloaaMWords
namespace Go.Proofs.Ytddbplgcglgloaa
open Go.RowKit Ex
set_option linter.unusedSimpArgs false
set_option linter.unusedVariables false

def zeroE (t : T) : Bool := (t.op == 0) && (t.n == 0) && (t.kids.length == 0)
def srtAt (l : List Dom.V) (x : Int) : Int := ((l[x.toNat]?).map Dom.V.srt).getD 0
def setGo (l : List Dom.V) (env : Bool) (seen : List Int) : List ST → Int
  | [] => 0
  | s :: r => if s.var < 0 ∨ (l.length : Int) ≤ s.var ∨ envAt l s.var ≠ env ∨ s.var ∈ seen then 3
      else if s.any = true then (if zeroE s.e = true then setGo l env (s.var :: seen) r else 1)
      else if needE l s.e (srtAt l s.var) true (!env) false = 0 then setGo l env (s.var :: seen) r else needE l s.e (srtAt l s.var) true (!env) false
def cmdE (l : List Dom.V) (c : CT) (env : Bool) : Int :=
  if Dom.mayL l = 0 then (if needE l c.guard 1 true (!env) false = 0 then (if 6 < c.sets.length then 7 else setGo l env [] c.sets) else needE l c.guard 1 true (!env) false) else Dom.mayL l
def cmdsE (l : List Dom.V) (env : Bool) : List CT → Int
  | [] => 0
  | c :: r => if cmdE l c env = 0 then cmdsE l env r else cmdE l c env
def goalsE (l : List Dom.V) : List T → Int
  | [] => 0
  | t :: r => if needE l t 1 true false false = 0 then goalsE l r else needE l t 1 true false false
def firstE : List Int → Int
  | [] => 0
  | x :: r => if x = 0 then firstE r else x
def sizesE (m : MT) : Int := if 12 < m.env.length ∨ 12 < m.sys.length ∨ 4 < m.asm.length ∨ 4 < m.ens.length ∨ 6 < m.prio.length then 7 else 0
def bothE (m : MT) : Int := if 0 < m.prio.length ∧ 0 < m.asm.length + m.ens.length then 1 else 0
def modE (m : MT) : Int := firstE [Dom.mayL m.vars, needE m.vars m.ie 1 false false false, needE m.vars m.is 1 true false false, sizesE m, cmdsE m.vars true m.env, cmdsE m.vars false m.sys, bothE m, goalsE m.vars m.asm, goalsE m.vars m.ens, goalsE m.vars m.prio]
def varsS : List Dom.V → List Dom.V → Bool
  | [], [] => true
  | a :: r, b :: s => (a.nm.data == b.nm.data) && (a.env == b.env) && (a.srt == b.srt) && (a.lo == b.lo) && (a.hi == b.hi) && varsS r s
  | [], _ :: _ => false
  | _ :: _, [] => false
def rowS : List T → List T → Bool
  | [], [] => true
  | a :: r, b :: s => sameE a b && rowS r s
  | [], _ :: _ => false
  | _ :: _, [] => false
def setsS : List ST → List ST → Bool
  | [], [] => true
  | a :: r, b :: s => (a.var == b.var) && (a.any == b.any) && sameE a.e b.e && setsS r s
  | [], _ :: _ => false
  | _ :: _, [] => false
def cmdsS : List CT → List CT → Bool
  | [], [] => true
  | a :: r, b :: s => sameE a.guard b.guard && setsS a.sets b.sets && cmdsS r s
  | [], _ :: _ => false
  | _ :: _, [] => false
def modS (a b : MT) : Bool := varsS a.vars b.vars && sameE a.ie b.ie && sameE a.is b.is && cmdsS a.env b.env && cmdsS a.sys b.sys && rowS a.asm b.asm && rowS a.ens b.ens && rowS a.prio b.prio
end Go.Proofs.Ytddbplgcglgloaa
