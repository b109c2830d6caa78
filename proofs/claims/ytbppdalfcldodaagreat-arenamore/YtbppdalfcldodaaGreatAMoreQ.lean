/- ArenaMore's long test ('Heavy(m)+Heavy(Module{Env: {c}}) > 0 || .. || ..') in a region that draws its order. -/
import Derived.Test.YtbppdalfcldodaaGreatAMoreQ0
import Derived.Test.YtbppdalfcldodaaGreatGSm
import Derived.Test.YtbppdalfcldodaaGreatGMd
import Derived.Test.YtbppdalfcldodaaGreatCAwake
import Derived.Test.YtbppdalfcldodaaGreatCDevG
set_option maxRecDepth 100000
namespace Go.Proofs.YtbppdalfcldodaaGreat
open Go.RowKit Ex
set_option linter.unusedSimpArgs false
set_option linter.unusedVariables false

def depsQ (i : Nat) : List Nat := [[], [0], [], [2], [3], [4], [1, 5], [6], [7], [8], [8, 9], [8, 10], [8, 11], [12], [13], [13, 14], [13], [13], [13, 15, 16, 17], [13, 18], [13, 19], [20], [21], [21, 22], [21, 23], [21, 24], [21, 25], [26], [27], [27, 28], [27, 29], [27, 30], [27, 31]].getD i []
def dstQ (i : Nat) : Nat := i + 17
def OpIs (ops : Array Oper) (i : Nat) (o : Op) (g : Option (Nat × Bool)) : Prop := ∃ ty pos af, ops[i]? = some ⟨some (i + 17), o, ty, pos, af, g⟩
def SQ (N z : Nat) (x : M8) (y : C2) (env : Bool) (s1 s2 e2 e3 : Int) (b1 b2 b3 b4 b5 : Bool) (i : Nat) (v : Value) (w : World) : Prop := (List.getD (α := Value → World → Prop) [
  fun v w => v = .agg x.cells,
  fun v w => v = .int .i64 s1,
  fun v w => v = .agg y.cells,
  fun v w => ∃ b, z ≤ b ∧ v = .slice (some ⟨b, 0, none⟩) 1 1 ∧ w.heap[b]? = some (.cells y.cells 71 (0, 0)),
  fun v w => ∃ b, z ≤ b ∧ v = .agg (dM b).cells ∧ w.heap[b]? = some (.cells y.cells 71 (0, 0)),
  fun v w => v = .int .i64 s2,
  fun v w => v = .int .i64 (s1 + s2),
  fun v w => v = .bool b1,
  fun v w => v = .bool b1,
  fun v w => b1 = false → v = .agg x.cells,
  fun v w => b1 = false → v = .int .i64 e2,
  fun v w => b1 = false → v = .bool b2,
  fun v w => v = .bool (b1 || b2),
  fun v w => v = .bool (b1 || b2),
  fun v w => (b1 || b2) = false → v = .pointer (some ⟨N, 0, none⟩),
  fun v w => (b1 || b2) = false → v = x.vars.v,
  fun v w => (b1 || b2) = false → v = .agg y.cells,
  fun v w => (b1 || b2) = false → v = .bool env,
  fun v w => (b1 || b2) = false → v = .int .i64 e3,
  fun v w => (b1 || b2) = false → v = .bool b3,
  fun v w => v = .bool (b1 || b2 || b3),
  fun v w => v = .bool (b1 || b2 || b3),
  fun v w => (b1 || b2 || b3) = false → v = .pointer (some ⟨N, 7, none⟩),
  fun v w => (b1 || b2 || b3) = false → v = x.env.v,
  fun v w => (b1 || b2 || b3) = false → v = .int .i64 x.env.n,
  fun v w => (b1 || b2 || b3) = false → v = .bool b4,
  fun v w => v = .bool (b1 || b2 || b3 || b4),
  fun v w => v = .bool (b1 || b2 || b3 || b4),
  fun v w => (b1 || b2 || b3 || b4) = false → v = .pointer (some ⟨N, 8, none⟩),
  fun v w => (b1 || b2 || b3 || b4) = false → v = x.sys.v,
  fun v w => (b1 || b2 || b3 || b4) = false → v = .int .i64 x.sys.n,
  fun v w => (b1 || b2 || b3 || b4) = false → v = .bool b5,
  fun v w => v = .bool (b1 || b2 || b3 || b4 || b5)
  ] i (fun _ _ => True)) v w
set_option maxHeartbeats 8000000 in
theorem amore_region1 {id N B : Nat} {ops : Array Oper} {Q : Exit → Act → World → Prop} {a0 : Act} {W : World} {x : M8} {m : MT} {y : C2} {c : CT} {env : Bool}
    (hm : Tryz.prog.follows .mixedOrders = true) (hsz : ops.size = 33) (hac : growAc ops depsQ = true) (hdep : ownDeps ops depsQ = true)
    (o0 : OpIs ops 0 (.load 28 (.tmp 3)) none)
    (o1 : OpIs ops 1 (.call { callee := .value (.func 8), args := #[.tmp 17], argTypes := #[28] }) none)
    (o2 : OpIs ops 2 (.load 71 (.tmp 4)) none)
    (o3 : OpIs ops 3 (.buildSlice 26 1 #[(0, .tmp 19)]) none)
    (o4 : OpIs ops 4 (.build 28 #[(3, .tmp 20)]) none)
    (o5 : OpIs ops 5 (.call { callee := .value (.func 8), args := #[.tmp 21], argTypes := #[28] }) none)
    (o6 : OpIs ops 6 (.binOp .add 3 (.tmp 18) (.tmp 22) 3) none)
    (o7 : OpIs ops 7 (.binOp .gtr 3 (.tmp 23) (.const (.int .i64 0)) 3) none)
    (o8 : OpIs ops 8 (.move (.tmp 24)) none)
    (o9 : OpIs ops 9 (.load 28 (.tmp 3)) (some (8, false)))
    (o10 : OpIs ops 10 (.call { callee := .value (.func 23), args := #[.tmp 26], argTypes := #[28] }) (some (8, false)))
    (o11 : OpIs ops 11 (.binOp .neq 39 (.tmp 27) (.const (.int .i64 0)) 39) (some (8, false)))
    (o12 : OpIs ops 12 (.pick (.tmp 25) (.const (.bool true)) (.tmp 28)) none)
    (o13 : OpIs ops 13 (.move (.tmp 29)) none)
    (o14 : OpIs ops 14 (.fieldAddr 28 (.tmp 3) 0) (some (13, false)))
    (o15 : OpIs ops 15 (.load 22 (.tmp 31)) (some (13, false)))
    (o16 : OpIs ops 16 (.load 71 (.tmp 4)) (some (13, false)))
    (o17 : OpIs ops 17 (.move (.tmp 2)) (some (13, false)))
    (o18 : OpIs ops 18 (.call { callee := .value (.func 33), args := #[.tmp 32, .tmp 33, .tmp 34], argTypes := #[22, 71, 4] }) (some (13, false)))
    (o19 : OpIs ops 19 (.binOp .neq 39 (.tmp 35) (.const (.int .i64 0)) 39) (some (13, false)))
    (o20 : OpIs ops 20 (.pick (.tmp 30) (.const (.bool true)) (.tmp 36)) none)
    (o21 : OpIs ops 21 (.move (.tmp 37)) none)
    (o22 : OpIs ops 22 (.fieldAddr 28 (.tmp 3) 3) (some (21, false)))
    (o23 : OpIs ops 23 (.load 26 (.tmp 39)) (some (21, false)))
    (o24 : OpIs ops 24 (.call { callee := .builtin .len, args := #[.tmp 40], argTypes := #[26] }) (some (21, false)))
    (o25 : OpIs ops 25 (.binOp .geq 3 (.tmp 41) (.const (.int .i64 12)) 3) (some (21, false)))
    (o26 : OpIs ops 26 (.pick (.tmp 38) (.const (.bool true)) (.tmp 42)) none)
    (o27 : OpIs ops 27 (.move (.tmp 43)) none)
    (o28 : OpIs ops 28 (.fieldAddr 28 (.tmp 3) 4) (some (27, false)))
    (o29 : OpIs ops 29 (.load 26 (.tmp 45)) (some (27, false)))
    (o30 : OpIs ops 30 (.call { callee := .builtin .len, args := #[.tmp 46], argTypes := #[26] }) (some (27, false)))
    (o31 : OpIs ops 31 (.binOp .geq 3 (.tmp 47) (.const (.int .i64 12)) 3) (some (27, false)))
    (o32 : OpIs ops 32 (.pick (.tmp 44) (.const (.bool true)) (.tmp 48)) none)
    (hts : 50 ≤ a0.tmps.size) (h2 : a0.eval (.tmp 2) = .bool env) (h3 : a0.eval (.tmp 3) = .pointer (some ⟨N, 0, none⟩)) (h4 : a0.eval (.tmp 4) = .pointer (some ⟨N + 1, 0, none⟩))
    (hB : B ≤ W.heap.size) (hrm : RM W B x m) (hrc : RC W B y c) (hbm : BoxM W N x) (hbc : W.heap[N + 1]? = some (.cells y.cells 71 (0, 0))) (hN : N + 2 ≤ W.heap.size)
    (hend : ∀ (u : Nat → Value) (w : World), u 49 = .bool (decide (0 < hv6 m + hv6 (dT c)) || (modE m != 0) || (cmdE m.vars c env != 0) || decide (12 ≤ x.env.n) || decide (12 ≤ x.sys.n)) → Below W.heap.size W w → Q .normal (sel [17, 18, 19, 20, 21, 22, 23, 24, 25, 26, 27, 28, 29, 30, 31, 32, 33, 34, 35, 36, 37, 38, 39, 40, 41, 42, 43, 44, 45, 46, 47, 48, 49] a0 u) w) :
    (Code.region id ops true).wp Tryz.prog Q a0 W := by
  obtain ⟨h1a, h1b⟩ := hv6_bd m
  obtain ⟨h2a, h2b⟩ := hv6_bd (dT c)
  have hws : IntKind.i64.wrap (hv6 m + hv6 (dT c)) = hv6 m + hv6 (dT c) := by rw [IntKind.wrap_i64]; omega
  generalize hs1 : hv6 m = s1 at *
  generalize hs2 : hv6 (dT c) = s2 at *
  generalize he2 : modE m = e2 at *
  generalize he3 : cmdE m.vars c env = e3 at *
  generalize hb1 : decide (0 < s1 + s2) = b1 at *
  generalize hb2 : (e2 != 0) = b2 at *
  generalize hb3 : (e3 != 0) = b3 at *
  generalize hb4 : decide (12 ≤ x.env.n) = b4 at *
  generalize hb5 : decide (12 ≤ x.sys.n) = b5 at *
  refine region_grow (n := 33) [17, 18, 19, 20, 21, 22, 23, 24, 25, 26, 27, 28, 29, 30, 31, 32, 33, 34, 35, 36, 37, 38, 39, 40, 41, 42, 43, 44, 45, 46, 47, 48, 49] dstQ depsQ (SQ N W.heap.size x y env s1 s2 e2 e3 b1 b2 b3 b4 b5) hm hsz hac hdep ?_ ?_ ?_ ?_ ?_ ?_
  · intro i o ho
    have hi : i < 33 := by rw [← hsz]; exact (Array.getElem?_eq_some_iff.1 ho).1
    refine ⟨?_, ?_, by show i + 17 < _; omega⟩
    · rcases lt33Q hi with rfl | rfl | rfl | rfl | rfl | rfl | rfl | rfl | rfl | rfl | rfl | rfl | rfl | rfl | rfl | rfl | rfl | rfl | rfl | rfl | rfl | rfl | rfl | rfl | rfl | rfl | rfl | rfl | rfl | rfl | rfl | rfl | rfl
      · obtain ⟨ty, pos, af, e⟩ := o0; rw [ho] at e; obtain rfl := Option.some.inj e; rfl
      · obtain ⟨ty, pos, af, e⟩ := o1; rw [ho] at e; obtain rfl := Option.some.inj e; rfl
      · obtain ⟨ty, pos, af, e⟩ := o2; rw [ho] at e; obtain rfl := Option.some.inj e; rfl
      · obtain ⟨ty, pos, af, e⟩ := o3; rw [ho] at e; obtain rfl := Option.some.inj e; rfl
      · obtain ⟨ty, pos, af, e⟩ := o4; rw [ho] at e; obtain rfl := Option.some.inj e; rfl
      · obtain ⟨ty, pos, af, e⟩ := o5; rw [ho] at e; obtain rfl := Option.some.inj e; rfl
      · obtain ⟨ty, pos, af, e⟩ := o6; rw [ho] at e; obtain rfl := Option.some.inj e; rfl
      · obtain ⟨ty, pos, af, e⟩ := o7; rw [ho] at e; obtain rfl := Option.some.inj e; rfl
      · obtain ⟨ty, pos, af, e⟩ := o8; rw [ho] at e; obtain rfl := Option.some.inj e; rfl
      · obtain ⟨ty, pos, af, e⟩ := o9; rw [ho] at e; obtain rfl := Option.some.inj e; rfl
      · obtain ⟨ty, pos, af, e⟩ := o10; rw [ho] at e; obtain rfl := Option.some.inj e; rfl
      · obtain ⟨ty, pos, af, e⟩ := o11; rw [ho] at e; obtain rfl := Option.some.inj e; rfl
      · obtain ⟨ty, pos, af, e⟩ := o12; rw [ho] at e; obtain rfl := Option.some.inj e; rfl
      · obtain ⟨ty, pos, af, e⟩ := o13; rw [ho] at e; obtain rfl := Option.some.inj e; rfl
      · obtain ⟨ty, pos, af, e⟩ := o14; rw [ho] at e; obtain rfl := Option.some.inj e; rfl
      · obtain ⟨ty, pos, af, e⟩ := o15; rw [ho] at e; obtain rfl := Option.some.inj e; rfl
      · obtain ⟨ty, pos, af, e⟩ := o16; rw [ho] at e; obtain rfl := Option.some.inj e; rfl
      · obtain ⟨ty, pos, af, e⟩ := o17; rw [ho] at e; obtain rfl := Option.some.inj e; rfl
      · obtain ⟨ty, pos, af, e⟩ := o18; rw [ho] at e; obtain rfl := Option.some.inj e; rfl
      · obtain ⟨ty, pos, af, e⟩ := o19; rw [ho] at e; obtain rfl := Option.some.inj e; rfl
      · obtain ⟨ty, pos, af, e⟩ := o20; rw [ho] at e; obtain rfl := Option.some.inj e; rfl
      · obtain ⟨ty, pos, af, e⟩ := o21; rw [ho] at e; obtain rfl := Option.some.inj e; rfl
      · obtain ⟨ty, pos, af, e⟩ := o22; rw [ho] at e; obtain rfl := Option.some.inj e; rfl
      · obtain ⟨ty, pos, af, e⟩ := o23; rw [ho] at e; obtain rfl := Option.some.inj e; rfl
      · obtain ⟨ty, pos, af, e⟩ := o24; rw [ho] at e; obtain rfl := Option.some.inj e; rfl
      · obtain ⟨ty, pos, af, e⟩ := o25; rw [ho] at e; obtain rfl := Option.some.inj e; rfl
      · obtain ⟨ty, pos, af, e⟩ := o26; rw [ho] at e; obtain rfl := Option.some.inj e; rfl
      · obtain ⟨ty, pos, af, e⟩ := o27; rw [ho] at e; obtain rfl := Option.some.inj e; rfl
      · obtain ⟨ty, pos, af, e⟩ := o28; rw [ho] at e; obtain rfl := Option.some.inj e; rfl
      · obtain ⟨ty, pos, af, e⟩ := o29; rw [ho] at e; obtain rfl := Option.some.inj e; rfl
      · obtain ⟨ty, pos, af, e⟩ := o30; rw [ho] at e; obtain rfl := Option.some.inj e; rfl
      · obtain ⟨ty, pos, af, e⟩ := o31; rw [ho] at e; obtain rfl := Option.some.inj e; rfl
      · obtain ⟨ty, pos, af, e⟩ := o32; rw [ho] at e; obtain rfl := Option.some.inj e; rfl
    · have hall : ∀ i, i < 33 → dstQ i ∈ [17, 18, 19, 20, 21, 22, 23, 24, 25, 26, 27, 28, 29, 30, 31, 32, 33, 34, 35, 36, 37, 38, 39, 40, 41, 42, 43, 44, 45, 46, 47, 48, 49] := by decide +kernel
      exact hall i hi
  · intro i j hi hj h
    unfold dstQ at h; omega
  · intro j v w w' hj h hbw hWw hb
    rcases lt33Q hj with rfl | rfl | rfl | rfl | rfl | rfl | rfl | rfl | rfl | rfl | rfl | rfl | rfl | rfl | rfl | rfl | rfl | rfl | rfl | rfl | rfl | rfl | rfl | rfl | rfl | rfl | rfl | rfl | rfl | rfl | rfl | rfl | rfl
    · exact h
    · exact h
    · exact h
    · obtain ⟨b, q1, q2, q3⟩ := h; exact ⟨b, q1, q2, (hb.block b (Array.getElem?_eq_some_iff.1 q3).1).trans q3⟩
    · obtain ⟨b, q1, q2, q3⟩ := h; exact ⟨b, q1, q2, (hb.block b (Array.getElem?_eq_some_iff.1 q3).1).trans q3⟩
    · exact h
    · exact h
    · exact h
    · exact h
    · exact h
    · exact h
    · exact h
    · exact h
    · exact h
    · exact h
    · exact h
    · exact h
    · exact h
    · exact h
    · exact h
    · exact h
    · exact h
    · exact h
    · exact h
    · exact h
    · exact h
    · exact h
    · exact h
    · exact h
    · exact h
    · exact h
    · exact h
    · exact h
  · intro i o g b v w ho hg hS hne
    have hi : i < 33 := by rw [← hsz]; exact (Array.getElem?_eq_some_iff.1 ho).1
    rcases lt33Q hi with rfl | rfl | rfl | rfl | rfl | rfl | rfl | rfl | rfl | rfl | rfl | rfl | rfl | rfl | rfl | rfl | rfl | rfl | rfl | rfl | rfl | rfl | rfl | rfl | rfl | rfl | rfl | rfl | rfl | rfl | rfl | rfl | rfl
    · obtain ⟨ty, pos, af, e⟩ := o0; rw [ho] at e; obtain rfl := Option.some.inj e
      cases hg
    · obtain ⟨ty, pos, af, e⟩ := o1; rw [ho] at e; obtain rfl := Option.some.inj e
      cases hg
    · obtain ⟨ty, pos, af, e⟩ := o2; rw [ho] at e; obtain rfl := Option.some.inj e
      cases hg
    · obtain ⟨ty, pos, af, e⟩ := o3; rw [ho] at e; obtain rfl := Option.some.inj e
      cases hg
    · obtain ⟨ty, pos, af, e⟩ := o4; rw [ho] at e; obtain rfl := Option.some.inj e
      cases hg
    · obtain ⟨ty, pos, af, e⟩ := o5; rw [ho] at e; obtain rfl := Option.some.inj e
      cases hg
    · obtain ⟨ty, pos, af, e⟩ := o6; rw [ho] at e; obtain rfl := Option.some.inj e
      cases hg
    · obtain ⟨ty, pos, af, e⟩ := o7; rw [ho] at e; obtain rfl := Option.some.inj e
      cases hg
    · obtain ⟨ty, pos, af, e⟩ := o8; rw [ho] at e; obtain rfl := Option.some.inj e
      cases hg
    · obtain ⟨ty, pos, af, e⟩ := o9; rw [ho] at e; obtain rfl := Option.some.inj e
      injection hg with hg; injection hg with hg hg2; subst hg; subst hg2
      intro hf; exact absurd (hS.trans (congrArg Value.bool hf)) hne
    · obtain ⟨ty, pos, af, e⟩ := o10; rw [ho] at e; obtain rfl := Option.some.inj e
      injection hg with hg; injection hg with hg hg2; subst hg; subst hg2
      intro hf; exact absurd (hS.trans (congrArg Value.bool hf)) hne
    · obtain ⟨ty, pos, af, e⟩ := o11; rw [ho] at e; obtain rfl := Option.some.inj e
      injection hg with hg; injection hg with hg hg2; subst hg; subst hg2
      intro hf; exact absurd (hS.trans (congrArg Value.bool hf)) hne
    · obtain ⟨ty, pos, af, e⟩ := o12; rw [ho] at e; obtain rfl := Option.some.inj e
      cases hg
    · obtain ⟨ty, pos, af, e⟩ := o13; rw [ho] at e; obtain rfl := Option.some.inj e
      cases hg
    · obtain ⟨ty, pos, af, e⟩ := o14; rw [ho] at e; obtain rfl := Option.some.inj e
      injection hg with hg; injection hg with hg hg2; subst hg; subst hg2
      intro hf; exact absurd (hS.trans (congrArg Value.bool hf)) hne
    · obtain ⟨ty, pos, af, e⟩ := o15; rw [ho] at e; obtain rfl := Option.some.inj e
      injection hg with hg; injection hg with hg hg2; subst hg; subst hg2
      intro hf; exact absurd (hS.trans (congrArg Value.bool hf)) hne
    · obtain ⟨ty, pos, af, e⟩ := o16; rw [ho] at e; obtain rfl := Option.some.inj e
      injection hg with hg; injection hg with hg hg2; subst hg; subst hg2
      intro hf; exact absurd (hS.trans (congrArg Value.bool hf)) hne
    · obtain ⟨ty, pos, af, e⟩ := o17; rw [ho] at e; obtain rfl := Option.some.inj e
      injection hg with hg; injection hg with hg hg2; subst hg; subst hg2
      intro hf; exact absurd (hS.trans (congrArg Value.bool hf)) hne
    · obtain ⟨ty, pos, af, e⟩ := o18; rw [ho] at e; obtain rfl := Option.some.inj e
      injection hg with hg; injection hg with hg hg2; subst hg; subst hg2
      intro hf; exact absurd (hS.trans (congrArg Value.bool hf)) hne
    · obtain ⟨ty, pos, af, e⟩ := o19; rw [ho] at e; obtain rfl := Option.some.inj e
      injection hg with hg; injection hg with hg hg2; subst hg; subst hg2
      intro hf; exact absurd (hS.trans (congrArg Value.bool hf)) hne
    · obtain ⟨ty, pos, af, e⟩ := o20; rw [ho] at e; obtain rfl := Option.some.inj e
      cases hg
    · obtain ⟨ty, pos, af, e⟩ := o21; rw [ho] at e; obtain rfl := Option.some.inj e
      cases hg
    · obtain ⟨ty, pos, af, e⟩ := o22; rw [ho] at e; obtain rfl := Option.some.inj e
      injection hg with hg; injection hg with hg hg2; subst hg; subst hg2
      intro hf; exact absurd (hS.trans (congrArg Value.bool hf)) hne
    · obtain ⟨ty, pos, af, e⟩ := o23; rw [ho] at e; obtain rfl := Option.some.inj e
      injection hg with hg; injection hg with hg hg2; subst hg; subst hg2
      intro hf; exact absurd (hS.trans (congrArg Value.bool hf)) hne
    · obtain ⟨ty, pos, af, e⟩ := o24; rw [ho] at e; obtain rfl := Option.some.inj e
      injection hg with hg; injection hg with hg hg2; subst hg; subst hg2
      intro hf; exact absurd (hS.trans (congrArg Value.bool hf)) hne
    · obtain ⟨ty, pos, af, e⟩ := o25; rw [ho] at e; obtain rfl := Option.some.inj e
      injection hg with hg; injection hg with hg hg2; subst hg; subst hg2
      intro hf; exact absurd (hS.trans (congrArg Value.bool hf)) hne
    · obtain ⟨ty, pos, af, e⟩ := o26; rw [ho] at e; obtain rfl := Option.some.inj e
      cases hg
    · obtain ⟨ty, pos, af, e⟩ := o27; rw [ho] at e; obtain rfl := Option.some.inj e
      cases hg
    · obtain ⟨ty, pos, af, e⟩ := o28; rw [ho] at e; obtain rfl := Option.some.inj e
      injection hg with hg; injection hg with hg hg2; subst hg; subst hg2
      intro hf; exact absurd (hS.trans (congrArg Value.bool hf)) hne
    · obtain ⟨ty, pos, af, e⟩ := o29; rw [ho] at e; obtain rfl := Option.some.inj e
      injection hg with hg; injection hg with hg hg2; subst hg; subst hg2
      intro hf; exact absurd (hS.trans (congrArg Value.bool hf)) hne
    · obtain ⟨ty, pos, af, e⟩ := o30; rw [ho] at e; obtain rfl := Option.some.inj e
      injection hg with hg; injection hg with hg hg2; subst hg; subst hg2
      intro hf; exact absurd (hS.trans (congrArg Value.bool hf)) hne
    · obtain ⟨ty, pos, af, e⟩ := o31; rw [ho] at e; obtain rfl := Option.some.inj e
      injection hg with hg; injection hg with hg hg2; subst hg; subst hg2
      intro hf; exact absurd (hS.trans (congrArg Value.bool hf)) hne
    · obtain ⟨ty, pos, af, e⟩ := o32; rw [ho] at e; obtain rfl := Option.some.inj e
      cases hg
  · intro i o a w v K hi ho hs hd hg hbw hWw hK
    have b0 : BoxM w N x := hbm.below hbw (by omega)
    have b1' : w.heap[N + 1]? = some (.cells y.cells 71 (0, 0)) := (hbw.block (N + 1) (by omega)).trans hbc
    have k3 : a.eval (.tmp 3) = .pointer (some ⟨N, 0, none⟩) := (hs 3 (by decide)).trans h3
    have k4 : a.eval (.tmp 4) = .pointer (some ⟨N + 1, 0, none⟩) := (hs 4 (by decide)).trans h4
    have k2 : a.eval (.tmp 2) = .bool env := (hs 2 (by decide)).trans h2
    have hrm' : RM w B x m := hrm.below (hbw.mono hB)
    have hrc' : RC w B y c := hrc.below (hbw.mono hB)
    rcases lt33Q hi with rfl | rfl | rfl | rfl | rfl | rfl | rfl | rfl | rfl | rfl | rfl | rfl | rfl | rfl | rfl | rfl | rfl | rfl | rfl | rfl | rfl | rfl | rfl | rfl | rfl | rfl | rfl | rfl | rfl | rfl | rfl | rfl | rfl
    · obtain ⟨ty, pos, af, e⟩ := o0; rw [ho] at e; obtain rfl := Option.some.inj e
      exact sq_load28 k3 b0 (hK _ _ rfl (Below.refl _ _))
    · obtain ⟨ty, pos, af, e⟩ := o1; rw [ho] at e; obtain rfl := Option.some.inj e
      obtain ⟨d0, s100⟩ := hd 0 (by simp [depsQ])
      have d0 : a.eval (.tmp 17) = v 0 := d0
      exact sq_call1 (by decide) (d0.trans s100) (hs1 ▸ hv6_any B x m w (by omega) hrm') (fun w' hb => hK _ _ rfl hb)
    · obtain ⟨ty, pos, af, e⟩ := o2; rw [ho] at e; obtain rfl := Option.some.inj e
      exact sq_load71 k4 b1' (hK _ _ rfl (Below.refl _ _))
    · obtain ⟨ty, pos, af, e⟩ := o3; rw [ho] at e; obtain rfl := Option.some.inj e
      obtain ⟨d2, s102⟩ := hd 2 (by simp [depsQ])
      have d2 : a.eval (.tmp 19) = v 2 := d2
      exact sq_one26 (d2.trans s102) (hK _ _ ⟨_, hWw, rfl, new_at rfl⟩ ((Below.refl _ _).alloc (Nat.le_refl _) _))
    · obtain ⟨ty, pos, af, e⟩ := o4; rw [ho] at e; obtain rfl := Option.some.inj e
      obtain ⟨d3, s103⟩ := hd 3 (by simp [depsQ])
      have d3 : a.eval (.tmp 20) = v 3 := d3
      obtain ⟨b, q1, q2, q3⟩ := s103
      exact sq_build28 (d3.trans q2) (hK _ _ ⟨b, q1, rfl, q3⟩ (Below.refl _ _))
    · obtain ⟨ty, pos, af, e⟩ := o5; rw [ho] at e; obtain rfl := Option.some.inj e
      obtain ⟨d4, s104⟩ := hd 4 (by simp [depsQ])
      have d4 : a.eval (.tmp 21) = v 4 := d4
      obtain ⟨b, q1, q2, q3⟩ := s104
      have hzb : b + 1 ≤ w.heap.size := (Array.getElem?_eq_some_iff.1 q3).1
      exact sq_call1 (by decide) (d4.trans q2) (hs2 ▸ hv6_any (b + 1) (dM b) (dT c) w hzb (d_rmA q3 hrc' (by omega))) (fun w' hb => hK _ _ rfl hb)
    · obtain ⟨ty, pos, af, e⟩ := o6; rw [ho] at e; obtain rfl := Option.some.inj e
      obtain ⟨d1, s101⟩ := hd 1 (by simp [depsQ])
      have d1 : a.eval (.tmp 18) = v 1 := d1
      obtain ⟨d5, s105⟩ := hd 5 (by simp [depsQ])
      have d5 : a.eval (.tmp 22) = v 5 := d5
      exact sq_add (d1.trans s101) (d5.trans s105) hws (hK _ _ rfl (Below.refl _ _))
    · obtain ⟨ty, pos, af, e⟩ := o7; rw [ho] at e; obtain rfl := Option.some.inj e
      obtain ⟨d6, s106⟩ := hd 6 (by simp [depsQ])
      have d6 : a.eval (.tmp 23) = v 6 := d6
      exact sq_gtr (d6.trans s106) (hK _ _ (congrArg Value.bool hb1) (Below.refl _ _))
    · obtain ⟨ty, pos, af, e⟩ := o8; rw [ho] at e; obtain rfl := Option.some.inj e
      obtain ⟨d7, s107⟩ := hd 7 (by simp [depsQ])
      have d7 : a.eval (.tmp 24) = v 7 := d7
      exact sq_move (d7.trans s107) (hK _ _ rfl (Below.refl _ _))
    · obtain ⟨ty, pos, af, e⟩ := o9; rw [ho] at e; obtain rfl := Option.some.inj e
      obtain ⟨g1, g2⟩ := hg 8 false rfl
      have gf : b1 = false := by have e := Eq.trans (Eq.symm g2) g1; injection e
      exact sq_load28 k3 b0 (hK _ _ (fun _ => rfl) (Below.refl _ _))
    · obtain ⟨ty, pos, af, e⟩ := o10; rw [ho] at e; obtain rfl := Option.some.inj e
      obtain ⟨g1, g2⟩ := hg 8 false rfl
      have gf : b1 = false := by have e := Eq.trans (Eq.symm g2) g1; injection e
      obtain ⟨d9, s109⟩ := hd 9 (by simp [depsQ])
      have d9 : a.eval (.tmp 26) = v 9 := d9
      exact sq_call1 (by decide) (d9.trans (s109 gf)) (he2 ▸ rmod_any B x m w (by omega) hrm') (fun w' hb => hK _ _ (fun _ => rfl) hb)
    · obtain ⟨ty, pos, af, e⟩ := o11; rw [ho] at e; obtain rfl := Option.some.inj e
      obtain ⟨g1, g2⟩ := hg 8 false rfl
      have gf : b1 = false := by have e := Eq.trans (Eq.symm g2) g1; injection e
      obtain ⟨d10, s110⟩ := hd 10 (by simp [depsQ])
      have d10 : a.eval (.tmp 27) = v 10 := d10
      exact sq_neq (d10.trans (s110 gf)) (hK _ _ (fun _ => congrArg Value.bool hb2) (Below.refl _ _))
    · obtain ⟨ty, pos, af, e⟩ := o12; rw [ho] at e; obtain rfl := Option.some.inj e
      obtain ⟨d8, s108⟩ := hd 8 (by simp [depsQ])
      have d8 : a.eval (.tmp 25) = v 8 := d8
      obtain ⟨d11, s111⟩ := hd 11 (by simp [depsQ])
      have d11 : a.eval (.tmp 28) = v 11 := d11
      exact sq_pick (d8.trans s108) (fun gf => d11.trans (s111 gf)) (hK _ _ rfl (Below.refl _ _))
    · obtain ⟨ty, pos, af, e⟩ := o13; rw [ho] at e; obtain rfl := Option.some.inj e
      obtain ⟨d12, s112⟩ := hd 12 (by simp [depsQ])
      have d12 : a.eval (.tmp 29) = v 12 := d12
      exact sq_move (d12.trans s112) (hK _ _ rfl (Below.refl _ _))
    · obtain ⟨ty, pos, af, e⟩ := o14; rw [ho] at e; obtain rfl := Option.some.inj e
      obtain ⟨g1, g2⟩ := hg 13 false rfl
      have gf : (b1 || b2) = false := by have e := Eq.trans (Eq.symm g2) g1; injection e
      exact sq_field k3 (by simp) (hK _ _ (fun _ => rfl) (Below.refl _ _))
    · obtain ⟨ty, pos, af, e⟩ := o15; rw [ho] at e; obtain rfl := Option.some.inj e
      obtain ⟨g1, g2⟩ := hg 13 false rfl
      have gf : (b1 || b2) = false := by have e := Eq.trans (Eq.symm g2) g1; injection e
      obtain ⟨d14, s114⟩ := hd 14 (by simp [depsQ])
      have d14 : a.eval (.tmp 31) = v 14 := d14
      exact sq_load (.inl rfl) (d14.trans (s114 gf)) (box12 b0).1 (hK _ _ (fun _ => rfl) (Below.refl _ _))
    · obtain ⟨ty, pos, af, e⟩ := o16; rw [ho] at e; obtain rfl := Option.some.inj e
      obtain ⟨g1, g2⟩ := hg 13 false rfl
      have gf : (b1 || b2) = false := by have e := Eq.trans (Eq.symm g2) g1; injection e
      exact sq_load71 k4 b1' (hK _ _ (fun _ => rfl) (Below.refl _ _))
    · obtain ⟨ty, pos, af, e⟩ := o17; rw [ho] at e; obtain rfl := Option.some.inj e
      obtain ⟨g1, g2⟩ := hg 13 false rfl
      have gf : (b1 || b2) = false := by have e := Eq.trans (Eq.symm g2) g1; injection e
      exact sq_move k2 (hK _ _ (fun _ => rfl) (Below.refl _ _))
    · obtain ⟨ty, pos, af, e⟩ := o18; rw [ho] at e; obtain rfl := Option.some.inj e
      obtain ⟨g1, g2⟩ := hg 13 false rfl
      have gf : (b1 || b2) = false := by have e := Eq.trans (Eq.symm g2) g1; injection e
      obtain ⟨d15, s115⟩ := hd 15 (by simp [depsQ])
      have d15 : a.eval (.tmp 32) = v 15 := d15
      obtain ⟨d16, s116⟩ := hd 16 (by simp [depsQ])
      have d16 : a.eval (.tmp 33) = v 16 := d16
      obtain ⟨d17, s117⟩ := hd 17 (by simp [depsQ])
      have d17 : a.eval (.tmp 34) = v 17 := d17
      exact sq_call3 (d15.trans (s115 gf)) (d16.trans (s116 gf)) (d17.trans (s117 gf)) (he3 ▸ rcmd_any B x.vars.A x.vars.n x.vars.c m.vars y c env w hrm'.1 (by omega) hrc' hrm'.2.1) (fun w' hb => hK _ _ (fun _ => rfl) hb)
    · obtain ⟨ty, pos, af, e⟩ := o19; rw [ho] at e; obtain rfl := Option.some.inj e
      obtain ⟨g1, g2⟩ := hg 13 false rfl
      have gf : (b1 || b2) = false := by have e := Eq.trans (Eq.symm g2) g1; injection e
      obtain ⟨d18, s118⟩ := hd 18 (by simp [depsQ])
      have d18 : a.eval (.tmp 35) = v 18 := d18
      exact sq_neq (d18.trans (s118 gf)) (hK _ _ (fun _ => congrArg Value.bool hb3) (Below.refl _ _))
    · obtain ⟨ty, pos, af, e⟩ := o20; rw [ho] at e; obtain rfl := Option.some.inj e
      obtain ⟨d13, s113⟩ := hd 13 (by simp [depsQ])
      have d13 : a.eval (.tmp 30) = v 13 := d13
      obtain ⟨d19, s119⟩ := hd 19 (by simp [depsQ])
      have d19 : a.eval (.tmp 36) = v 19 := d19
      exact sq_pick (d13.trans s113) (fun gf => d19.trans (s119 gf)) (hK _ _ rfl (Below.refl _ _))
    · obtain ⟨ty, pos, af, e⟩ := o21; rw [ho] at e; obtain rfl := Option.some.inj e
      obtain ⟨d20, s120⟩ := hd 20 (by simp [depsQ])
      have d20 : a.eval (.tmp 37) = v 20 := d20
      exact sq_move (d20.trans s120) (hK _ _ rfl (Below.refl _ _))
    · obtain ⟨ty, pos, af, e⟩ := o22; rw [ho] at e; obtain rfl := Option.some.inj e
      obtain ⟨g1, g2⟩ := hg 21 false rfl
      have gf : (b1 || b2 || b3) = false := by have e := Eq.trans (Eq.symm g2) g1; injection e
      exact sq_field k3 (by simp) (hK _ _ (fun _ => rfl) (Below.refl _ _))
    · obtain ⟨ty, pos, af, e⟩ := o23; rw [ho] at e; obtain rfl := Option.some.inj e
      obtain ⟨g1, g2⟩ := hg 21 false rfl
      have gf : (b1 || b2 || b3) = false := by have e := Eq.trans (Eq.symm g2) g1; injection e
      obtain ⟨d22, s122⟩ := hd 22 (by simp [depsQ])
      have d22 : a.eval (.tmp 39) = v 22 := d22
      exact sq_load (.inr rfl) (d22.trans (s122 gf)) (box12 b0).2.2.2.2.2.2.2.1 (hK _ _ (fun _ => rfl) (Below.refl _ _))
    · obtain ⟨ty, pos, af, e⟩ := o24; rw [ho] at e; obtain rfl := Option.some.inj e
      obtain ⟨g1, g2⟩ := hg 21 false rfl
      have gf : (b1 || b2 || b3) = false := by have e := Eq.trans (Eq.symm g2) g1; injection e
      obtain ⟨d23, s123⟩ := hd 23 (by simp [depsQ])
      have d23 : a.eval (.tmp 40) = v 23 := d23
      exact sq_len (d23.trans (s123 gf)) (hK _ _ (fun _ => rfl) (Below.refl _ _))
    · obtain ⟨ty, pos, af, e⟩ := o25; rw [ho] at e; obtain rfl := Option.some.inj e
      obtain ⟨g1, g2⟩ := hg 21 false rfl
      have gf : (b1 || b2 || b3) = false := by have e := Eq.trans (Eq.symm g2) g1; injection e
      obtain ⟨d24, s124⟩ := hd 24 (by simp [depsQ])
      have d24 : a.eval (.tmp 41) = v 24 := d24
      exact sq_geq (d24.trans (s124 gf)) (hK _ _ (fun _ => congrArg Value.bool hb4) (Below.refl _ _))
    · obtain ⟨ty, pos, af, e⟩ := o26; rw [ho] at e; obtain rfl := Option.some.inj e
      obtain ⟨d21, s121⟩ := hd 21 (by simp [depsQ])
      have d21 : a.eval (.tmp 38) = v 21 := d21
      obtain ⟨d25, s125⟩ := hd 25 (by simp [depsQ])
      have d25 : a.eval (.tmp 42) = v 25 := d25
      exact sq_pick (d21.trans s121) (fun gf => d25.trans (s125 gf)) (hK _ _ rfl (Below.refl _ _))
    · obtain ⟨ty, pos, af, e⟩ := o27; rw [ho] at e; obtain rfl := Option.some.inj e
      obtain ⟨d26, s126⟩ := hd 26 (by simp [depsQ])
      have d26 : a.eval (.tmp 43) = v 26 := d26
      exact sq_move (d26.trans s126) (hK _ _ rfl (Below.refl _ _))
    · obtain ⟨ty, pos, af, e⟩ := o28; rw [ho] at e; obtain rfl := Option.some.inj e
      obtain ⟨g1, g2⟩ := hg 27 false rfl
      have gf : (b1 || b2 || b3 || b4) = false := by have e := Eq.trans (Eq.symm g2) g1; injection e
      exact sq_field k3 (by simp) (hK _ _ (fun _ => rfl) (Below.refl _ _))
    · obtain ⟨ty, pos, af, e⟩ := o29; rw [ho] at e; obtain rfl := Option.some.inj e
      obtain ⟨g1, g2⟩ := hg 27 false rfl
      have gf : (b1 || b2 || b3 || b4) = false := by have e := Eq.trans (Eq.symm g2) g1; injection e
      obtain ⟨d28, s128⟩ := hd 28 (by simp [depsQ])
      have d28 : a.eval (.tmp 45) = v 28 := d28
      exact sq_load (.inr rfl) (d28.trans (s128 gf)) (box12 b0).2.2.2.2.2.2.2.2.1 (hK _ _ (fun _ => rfl) (Below.refl _ _))
    · obtain ⟨ty, pos, af, e⟩ := o30; rw [ho] at e; obtain rfl := Option.some.inj e
      obtain ⟨g1, g2⟩ := hg 27 false rfl
      have gf : (b1 || b2 || b3 || b4) = false := by have e := Eq.trans (Eq.symm g2) g1; injection e
      obtain ⟨d29, s129⟩ := hd 29 (by simp [depsQ])
      have d29 : a.eval (.tmp 46) = v 29 := d29
      exact sq_len (d29.trans (s129 gf)) (hK _ _ (fun _ => rfl) (Below.refl _ _))
    · obtain ⟨ty, pos, af, e⟩ := o31; rw [ho] at e; obtain rfl := Option.some.inj e
      obtain ⟨g1, g2⟩ := hg 27 false rfl
      have gf : (b1 || b2 || b3 || b4) = false := by have e := Eq.trans (Eq.symm g2) g1; injection e
      obtain ⟨d30, s130⟩ := hd 30 (by simp [depsQ])
      have d30 : a.eval (.tmp 47) = v 30 := d30
      exact sq_geq (d30.trans (s130 gf)) (hK _ _ (fun _ => congrArg Value.bool hb5) (Below.refl _ _))
    · obtain ⟨ty, pos, af, e⟩ := o32; rw [ho] at e; obtain rfl := Option.some.inj e
      obtain ⟨d27, s127⟩ := hd 27 (by simp [depsQ])
      have d27 : a.eval (.tmp 44) = v 27 := d27
      obtain ⟨d31, s131⟩ := hd 31 (by simp [depsQ])
      have d31 : a.eval (.tmp 48) = v 31 := d31
      exact sq_pick (d27.trans s127) (fun gf => d31.trans (s131 gf)) (hK _ _ rfl (Below.refl _ _))
  · intro u w hS hbw hWw
    exact hend u w (hS 32 (by omega)) hbw
end Go.Proofs.YtbppdalfcldodaaGreat
