/- the same, the second time. -/
import Derived.Test.YtohegmnfmomjaaaCFailsA
set_option maxRecDepth 100000
namespace Go.Proofs.Ytohegmnfmomjaaa
open Go.RowKit Ex
set_option linter.unusedSimpArgs false
set_option linter.unusedVariables false

def dstFB : Nat → Nat
  | 0 => 113
  | 1 => 114
  | 2 => 115
  | 3 => 116
  | 4 => 117
  | 5 => 118
  | 6 => 119
  | 7 => 120
  | 8 => 121
  | 9 => 122
  | 10 => 123
  | 11 => 124
  | 12 => 125
  | 13 => 126
  | 14 => 127
  | 15 => 128
  | 16 => 1016
  | k + 17 => 1017 + k
def depsFB : Nat → List Nat
  | 1 => [0]
  | 4 => [2, 3]
  | 8 => [6, 7]
  | 9 => [8]
  | 10 => [5, 9]
  | 11 => [10]
  | 12 => [4, 11]
  | 13 => [1, 12]
  | 14 => [13]
  | 16 => [15, 14]
  | _ => []
def eatsFB : Nat → List Nat
  | 4 => [2]
  | 9 => [8]
  | 10 => [9]
  | 11 => [10]
  | 12 => [4, 11]
  | 13 => [12]
  | 14 => [13]
  | 16 => [14, 17]
  | _ => []
def readsFB : Nat → List Nat
  | 1 => [18]
  | 4 => [20]
  | _ => []
def SFB (nb cb xb : Nat) (op nn : Int) (A : Option Addr) (len cap : Nat) (lA : Option Addr) (ln lc : Nat) (kv hv : Int) : Nat → Value → Prop
  | 0, v => v = .pointer (some ⟨cb, 0, none⟩)
  | 1, v => v = .agg #[.int .i64 op, .int .i64 nn, .slice A len cap]
  | 3, v => v = .slice lA ln lc
  | 5, v => v = .int .i64 kv
  | 6, v => v = .agg #[.int .i64 1, .int .i64 1000, .slice none 0 0]
  | 7, v => v = .agg #[.int .i64 1, .int .i64 1, .slice none 0 0]
  | 15, v => v = .pointer (some ⟨nb, 7, none⟩)
  | _, _ => True
def RFB (base nb cb xb : Nat) (bs : List Nat) (W : World) (x : M8) (v0 : Dom.V) (op nn : Int) (A : Option Addr) (len cap : Nat) (tA : Option Addr) (tn tc : Nat) (ln : Nat) (xs : List Value) (kv hv : Int) : Nat → Value → World → List Nat → Prop
  | 2, v, w, gi => ∃ g, gi = [g] ∧ v = .slice (some ⟨g, 0, none⟩) 0 0 ∧ w.ownsRow base 50 5 (.slice (some ⟨g, 0, none⟩) 0 0) 0 []
  | 4, v, w, gi => ∃ g cp, gi = [g] ∧ v = .slice (some ⟨g, 0, none⟩) ln cp ∧ w.ownsRow base 50 5 (.slice (some ⟨g, 0, none⟩) ln cp) ln xs
  | 8, v, w, gi => ∃ gk, gi = [gk] ∧ v = .slice (some ⟨gk, 0, none⟩) 2 2 ∧ w.heap[gk]? = some (.cells #[.int .i64 1, .int .i64 1000, .slice none 0 0, .int .i64 1, .int .i64 1, .slice none 0 0] 25 (0, 0))
  | 9, v, w, gi => ∃ gk, gi = [gk] ∧ v = .agg #[.int .i64 12, .int .i64 0, .slice (some ⟨gk, 0, none⟩) 2 2] ∧ w.heap[gk]? = some (.cells #[.int .i64 1, .int .i64 1000, .slice none 0 0, .int .i64 1, .int .i64 1, .slice none 0 0] 25 (0, 0))
  | 10, v, w, gi => ∃ gk, gi = [gk] ∧ v = .agg #[.int .i64 kv, .bool false, .int .i64 12, .int .i64 0, .slice (some ⟨gk, 0, none⟩) 2 2] ∧ w.heap[gk]? = some (.cells #[.int .i64 1, .int .i64 1000, .slice none 0 0, .int .i64 1, .int .i64 1, .slice none 0 0] 25 (0, 0))
  | 11, v, w, gi => ∃ g gk, gi = [g, gk] ∧ v = .slice (some ⟨g, 0, none⟩) 1 1 ∧ w.heap[g]? = some (.cells #[.int .i64 kv, .bool false, .int .i64 12, .int .i64 0, .slice (some ⟨gk, 0, none⟩) 2 2] 50 (0, 0)) ∧ w.heap[gk]? = some (.cells #[.int .i64 1, .int .i64 1000, .slice none 0 0, .int .i64 1, .int .i64 1, .slice none 0 0] 25 (0, 0))
  | 12, v, w, gi => ∃ g cp gk, gi = [g, gk] ∧ v = .slice (some ⟨g, 0, none⟩) (ln + 1) cp ∧ w.ownsRow base 50 5 (.slice (some ⟨g, 0, none⟩) (ln + 1) cp) (ln + 1) (xs ++ [.int .i64 kv, .bool false, .int .i64 12, .int .i64 0, .slice (some ⟨gk, 0, none⟩) 2 2]) ∧ w.heap[gk]? = some (.cells #[.int .i64 1, .int .i64 1000, .slice none 0 0, .int .i64 1, .int .i64 1, .slice none 0 0] 25 (0, 0))
  | 13, v, w, gi => ∃ g cp gk, gi = [g, gk] ∧ v = .agg #[.int .i64 op, .int .i64 nn, .slice A len cap, .slice (some ⟨g, 0, none⟩) (ln + 1) cp] ∧ w.ownsRow base 50 5 (.slice (some ⟨g, 0, none⟩) (ln + 1) cp) (ln + 1) (xs ++ [.int .i64 kv, .bool false, .int .i64 12, .int .i64 0, .slice (some ⟨gk, 0, none⟩) 2 2]) ∧ w.heap[gk]? = some (.cells #[.int .i64 1, .int .i64 1000, .slice none 0 0, .int .i64 1, .int .i64 1, .slice none 0 0] 25 (0, 0))
  | 14, v, w, gi => ∃ gc g cp gk, gi = [gc, g, gk] ∧ v = .slice (some ⟨gc, 0, none⟩) 1 1 ∧ w.heap[gc]? = some (.cells #[.int .i64 op, .int .i64 nn, .slice A len cap, .slice (some ⟨g, 0, none⟩) (ln + 1) cp] 31 (0, 0)) ∧ w.ownsRow base 50 5 (.slice (some ⟨g, 0, none⟩) (ln + 1) cp) (ln + 1) (xs ++ [.int .i64 kv, .bool false, .int .i64 12, .int .i64 0, .slice (some ⟨gk, 0, none⟩) 2 2]) ∧ w.heap[gk]? = some (.cells #[.int .i64 1, .int .i64 1000, .slice none 0 0, .int .i64 1, .int .i64 1, .slice none 0 0] 25 (0, 0))
  | 16, _, w, gi => ∃ gc g cp gk, gi = [nb, gc, g, gk] ∧ w.rowIs nb 28 12 (fun i => if i = 7 then .slice (some ⟨gc, 0, none⟩) 1 1 else mV x i) ∧ w.heap[gc]? = some (.cells #[.int .i64 op, .int .i64 nn, .slice A len cap, .slice (some ⟨g, 0, none⟩) (ln + 1) cp] 31 (0, 0)) ∧ w.ownsRow base 50 5 (.slice (some ⟨g, 0, none⟩) (ln + 1) cp) (ln + 1) (xs ++ [.int .i64 kv, .bool false, .int .i64 12, .int .i64 0, .slice (some ⟨gk, 0, none⟩) 2 2]) ∧ w.heap[gk]? = some (.cells #[.int .i64 1, .int .i64 1000, .slice none 0 0, .int .i64 1, .int .i64 1, .slice none 0 0] 25 (0, 0))
  | 17, _, w, gi => gi = [nb] ∧ w.rowIs nb 28 12 (mV x)
  | 18, _, w, gi => gi = [cb] ∧ BoxC w cb op nn A len cap tA tn tc
  | 19, _, w, gi => gi = [xb] ∧ Dom.Box5 w xb v0
  | 20, _, w, gi => gi = bs ∧ ∀ b ∈ bs, w.heap[b]? = W.heap[b]?
  | _, _, _, gi => gi = []
set_option maxHeartbeats 4000000 in
theorem fails_regionB {id nb cb xb base ln lc : Nat} {bs : List Nat} {ops : Array Oper} {Q : Exit → Act → World → Prop} {a0 : Act} {W : World} {x : M8} {v0 : Dom.V} {op nn : Int} {A : Option Addr} {len cap : Nat} {tA : Option Addr} {tn tc : Nat} {lA : Option Addr} {xs : List Value} {kv hv : Int}
    (hm : Try.prog.follows .mixedOrders = true) (hsz : ops.size = 17) (hac : ownAc ops = true) (hdep : ownDeps ops depsFB = true)
    (o0 : ∃ ty pos af, ops[0]? = some ⟨some 113, .fieldAddr 31 (.tmp 5) 0, ty, pos, af, none⟩)
    (o1 : ∃ ty pos af, ops[1]? = some ⟨some 114, .load 25 (.tmp 113), ty, pos, af, none⟩)
    (o2 : ∃ ty pos af, ops[2]? = some ⟨some 115, .buildSlice 29 0 #[], ty, pos, af, none⟩)
    (o3 : ∃ ty pos af, ops[3]? = some ⟨some 116, .move (.tmp 10), ty, pos, af, none⟩)
    (o4 : ∃ ty pos af, ops[4]? = some ⟨some 117, .call { callee := .builtin .append, args := #[.tmp 115, .tmp 116], argTypes := #[29, 29] }, ty, pos, af, none⟩)
    (o5 : ∃ ty pos af, ops[5]? = some ⟨some 118, .move (.tmp 3), ty, pos, af, none⟩)
    (o6 : ∃ ty pos af, ops[6]? = some ⟨some 119, .call { callee := .value (.func 21), args := #[.const (.int .i64 1000)], argTypes := #[3] }, ty, pos, af, none⟩)
    (o7 : ∃ ty pos af, ops[7]? = some ⟨some 120, .call { callee := .value (.func 21), args := #[.const (.int .i64 1)], argTypes := #[3] }, ty, pos, af, none⟩)
    (o8 : ∃ ty pos af, ops[8]? = some ⟨some 121, .buildSlice 23 2 #[(0, .tmp 119), (1, .tmp 120)], ty, pos, af, none⟩)
    (o9 : ∃ ty pos af, ops[9]? = some ⟨some 122, .build 25 #[(0, .const (.int .i64 12)), (2, .tmp 121)], ty, pos, af, none⟩)
    (o10 : ∃ ty pos af, ops[10]? = some ⟨some 123, .build 50 #[(0, .tmp 118), (2, .tmp 122)], ty, pos, af, none⟩)
    (o11 : ∃ ty pos af, ops[11]? = some ⟨some 124, .buildSlice 29 1 #[(0, .tmp 123)], ty, pos, af, none⟩)
    (o12 : ∃ ty pos af, ops[12]? = some ⟨some 125, .call { callee := .builtin .append, args := #[.tmp 117, .tmp 124], argTypes := #[29, 29] }, ty, pos, af, none⟩)
    (o13 : ∃ ty pos af, ops[13]? = some ⟨some 126, .build 31 #[(0, .tmp 114), (1, .tmp 125)], ty, pos, af, none⟩)
    (o14 : ∃ ty pos af, ops[14]? = some ⟨some 127, .buildSlice 26 1 #[(0, .tmp 126)], ty, pos, af, none⟩)
    (o15 : ∃ ty pos af, ops[15]? = some ⟨some 128, .fieldAddr 28 (.tmp 4) 3, ty, pos, af, none⟩)
    (o16 : ∃ ty pos af, ops[16]? = some ⟨none, .store 26 (.tmp 128) (.tmp 127), ty, pos, af, none⟩)
    (hts : 129 ≤ a0.tmps.size) (h3 : a0.eval (.tmp 3) = .int .i64 kv) (h4 : a0.eval (.tmp 4) = .pointer (some ⟨nb, 0, none⟩)) (h5 : a0.eval (.tmp 5) = .pointer (some ⟨cb, 0, none⟩)) (h9 : a0.eval (.tmp 9) = .pointer (some ⟨xb, 0, none⟩)) (h10 : a0.eval (.tmp 10) = .slice lA ln lc)
    (hbc : BoxC W cb op nn A len cap tA tn tc) (hbx : Dom.Box5 W xb v0) (hhi : v0.hi = hv) (hhi0 : -1000 ≤ hv ∧ hv ≤ 1000) (hrow : W.rowIs nb 28 12 (mV x)) (hnb : base ≤ nb ∧ nb < W.heap.size) (hcb : nb < cb ∧ cb < W.heap.size) (hxb : cb < xb ∧ xb < W.heap.size) (hbb : ∀ b ∈ bs, xb < b ∧ b < W.heap.size) (hbase : base ≤ W.heap.size)
    (hlen : xs.length = ln * 5) (hnil : lA = none → ln = 0 ∧ lc = 0) (hcl : ∀ ad, lA = some ad → ad.block ∈ bs ∧ ∀ (j : Nat) u, xs[j]? = some u → W.cell? (ad.add j) = some u) (h1 : ∀ u ∈ xs, u.oneCell' = true) (hl : ln ≤ 100)
    (hend : ∀ (u : Nat → Value) (gc g cp gk : Nat) (w : World), w.rowIs nb 28 12 (fun i => if i = 7 then .slice (some ⟨gc, 0, none⟩) 1 1 else mV x i) → w.heap[gc]? = some (.cells #[.int .i64 op, .int .i64 nn, .slice A len cap, .slice (some ⟨g, 0, none⟩) (ln + 1) cp] 31 (0, 0)) → w.ownsRow base 50 5 (.slice (some ⟨g, 0, none⟩) (ln + 1) cp) (ln + 1) (xs ++ [.int .i64 kv, .bool false, .int .i64 12, .int .i64 0, .slice (some ⟨gk, 0, none⟩) 2 2]) → w.heap[gk]? = some (.cells #[.int .i64 1, .int .i64 1000, .slice none 0 0, .int .i64 1, .int .i64 1, .slice none 0 0] 25 (0, 0)) → BoxC w cb op nn A len cap tA tn tc → Dom.Box5 w xb v0 → (∀ b ∈ bs, w.heap[b]? = W.heap[b]?) → Below base W w → Q .normal (sel [113, 114, 115, 116, 117, 118, 119, 120, 121, 122, 123, 124, 125, 126, 127, 128] a0 u) w) :
    (Code.region id ops true).wp Try.prog Q a0 W := by
  obtain ⟨i0, hi0, hi1, hi2, hi3⟩ := info_parts info50
  refine region_res (n := 17) (N := 21) (base := base) [113, 114, 115, 116, 117, 118, 119, 120, 121, 122, 123, 124, 125, 126, 127, 128] dstFB depsFB eatsFB readsFB (fun j => if j = 17 then [nb] else if j = 18 then [cb] else if j = 19 then [xb] else bs) (SFB nb cb xb op nn A len cap lA ln lc kv hv) (RFB base nb cb xb bs W x v0 op nn A len cap tA tn tc ln xs kv hv) hm hsz (by omega) hac hdep hbase ?_ ?_ ?_ ?_ ?_ ?_ ?_ ?_ ?_ ?_ ?_
  · intro i j hi h
    have hall : ∀ i, i < 17 → ∀ j ∈ eatsFB i ++ readsFB i, (j ∈ depsFB i ∨ 17 ≤ j) ∧ j < 21 := by decide +kernel
    exact hall i hi j (List.mem_append.2 h)
  · intro i i' j hi hi' h h'
    have hall : ∀ i, i < 17 → ∀ i', i' < 17 → ∀ j ∈ eatsFB i, j ∈ eatsFB i' → i = i' := by decide +kernel
    exact hall i hi i' hi' j h h'
  · intro i e j hi he h h'
    have hall : ∀ i, i < 17 → ∀ e, e < 17 → ∀ j ∈ readsFB i, j ∈ eatsFB e → i ∈ depsFB e := by decide +kernel
    exact hall i hi e he j h h'
  · intro i j hi h
    have hall : ∀ i, i < 17 → ∀ j ∈ depsFB i, j < i := by decide +kernel
    exact hall i hi j h
  · intro i o ho
    have hi : i < 17 := by rw [← hsz]; exact (Array.getElem?_eq_some_iff.1 ho).1
    rcases lt17 hi with rfl | rfl | rfl | rfl | rfl | rfl | rfl | rfl | rfl | rfl | rfl | rfl | rfl | rfl | rfl | rfl | rfl
    · obtain ⟨ty, pos, af, e⟩ := o0; rw [ho] at e; obtain rfl := Option.some.inj e; exact .inl ⟨rfl, by decide, by show 113 < _; omega⟩
    · obtain ⟨ty, pos, af, e⟩ := o1; rw [ho] at e; obtain rfl := Option.some.inj e; exact .inl ⟨rfl, by decide, by show 114 < _; omega⟩
    · obtain ⟨ty, pos, af, e⟩ := o2; rw [ho] at e; obtain rfl := Option.some.inj e; exact .inl ⟨rfl, by decide, by show 115 < _; omega⟩
    · obtain ⟨ty, pos, af, e⟩ := o3; rw [ho] at e; obtain rfl := Option.some.inj e; exact .inl ⟨rfl, by decide, by show 116 < _; omega⟩
    · obtain ⟨ty, pos, af, e⟩ := o4; rw [ho] at e; obtain rfl := Option.some.inj e; exact .inl ⟨rfl, by decide, by show 117 < _; omega⟩
    · obtain ⟨ty, pos, af, e⟩ := o5; rw [ho] at e; obtain rfl := Option.some.inj e; exact .inl ⟨rfl, by decide, by show 118 < _; omega⟩
    · obtain ⟨ty, pos, af, e⟩ := o6; rw [ho] at e; obtain rfl := Option.some.inj e; exact .inl ⟨rfl, by decide, by show 119 < _; omega⟩
    · obtain ⟨ty, pos, af, e⟩ := o7; rw [ho] at e; obtain rfl := Option.some.inj e; exact .inl ⟨rfl, by decide, by show 120 < _; omega⟩
    · obtain ⟨ty, pos, af, e⟩ := o8; rw [ho] at e; obtain rfl := Option.some.inj e; exact .inl ⟨rfl, by decide, by show 121 < _; omega⟩
    · obtain ⟨ty, pos, af, e⟩ := o9; rw [ho] at e; obtain rfl := Option.some.inj e; exact .inl ⟨rfl, by decide, by show 122 < _; omega⟩
    · obtain ⟨ty, pos, af, e⟩ := o10; rw [ho] at e; obtain rfl := Option.some.inj e; exact .inl ⟨rfl, by decide, by show 123 < _; omega⟩
    · obtain ⟨ty, pos, af, e⟩ := o11; rw [ho] at e; obtain rfl := Option.some.inj e; exact .inl ⟨rfl, by decide, by show 124 < _; omega⟩
    · obtain ⟨ty, pos, af, e⟩ := o12; rw [ho] at e; obtain rfl := Option.some.inj e; exact .inl ⟨rfl, by decide, by show 125 < _; omega⟩
    · obtain ⟨ty, pos, af, e⟩ := o13; rw [ho] at e; obtain rfl := Option.some.inj e; exact .inl ⟨rfl, by decide, by show 126 < _; omega⟩
    · obtain ⟨ty, pos, af, e⟩ := o14; rw [ho] at e; obtain rfl := Option.some.inj e; exact .inl ⟨rfl, by decide, by show 127 < _; omega⟩
    · obtain ⟨ty, pos, af, e⟩ := o15; rw [ho] at e; obtain rfl := Option.some.inj e; exact .inl ⟨rfl, by decide, by show 128 < _; omega⟩
    · obtain ⟨ty, pos, af, e⟩ := o16; rw [ho] at e; obtain rfl := Option.some.inj e; exact .inr ⟨rfl, by decide⟩
  · intro i j hi hj h
    have hall : ∀ i, i < 21 → ∀ j, j < 21 → dstFB i = dstFB j → i = j := by decide +kernel
    exact hall i hi j hj h
  · intro j y w w' g hj hr hbw hbw' hk
    rcases lt21 hj with rfl | rfl | rfl | rfl | rfl | rfl | rfl | rfl | rfl | rfl | rfl | rfl | rfl | rfl | rfl | rfl | rfl | rfl | rfl | rfl | rfl
    · exact hr
    · exact hr
    · obtain ⟨g1, rfl, h, h'⟩ := hr; exact ⟨g1, rfl, h, own_at h' (fun b hb => hk b (by injection hb with hb; subst hb; simp))⟩
    · exact hr
    · obtain ⟨g1, cp, rfl, h, h'⟩ := hr; exact ⟨g1, cp, rfl, h, own_at h' (fun b hb => hk b (by injection hb with hb; subst hb; simp))⟩
    · exact hr
    · exact hr
    · exact hr
    · obtain ⟨gk, rfl, h, hgk⟩ := hr; exact ⟨gk, rfl, h, (hk _ (by simp)).trans hgk⟩
    · obtain ⟨gk, rfl, h, hgk⟩ := hr; exact ⟨gk, rfl, h, (hk _ (by simp)).trans hgk⟩
    · obtain ⟨gk, rfl, h, hgk⟩ := hr; exact ⟨gk, rfl, h, (hk _ (by simp)).trans hgk⟩
    · obtain ⟨g1, gk, rfl, h, h', hgk⟩ := hr; exact ⟨g1, gk, rfl, h, (hk _ (by simp)).trans h', (hk _ (by simp)).trans hgk⟩
    · obtain ⟨g1, cp, gk, rfl, h, h', hgk⟩ := hr; exact ⟨g1, cp, gk, rfl, h, own_at h' (fun b hb => hk b (by injection hb with hb; subst hb; simp)), (hk _ (by simp)).trans hgk⟩
    · obtain ⟨g1, cp, gk, rfl, h, h', hgk⟩ := hr; exact ⟨g1, cp, gk, rfl, h, own_at h' (fun b hb => hk b (by injection hb with hb; subst hb; simp)), (hk _ (by simp)).trans hgk⟩
    · obtain ⟨gc, g1, cp, gk, rfl, h, hgc, h', hgk⟩ := hr; exact ⟨gc, g1, cp, gk, rfl, h, (hk _ (by simp)).trans hgc, own_at h' (fun b hb => hk b (by injection hb with hb; subst hb; simp)), (hk _ (by simp)).trans hgk⟩
    · exact hr
    · obtain ⟨gc, g1, cp, gk, rfl, h, hgc, h', hgk⟩ := hr; exact ⟨gc, g1, cp, gk, rfl, h.of_block (hk _ (by simp)), (hk _ (by simp)).trans hgc, own_at h' (fun b hb => hk b (by injection hb with hb; subst hb; simp)), (hk _ (by simp)).trans hgk⟩
    · obtain ⟨rfl, h⟩ := hr; exact ⟨rfl, h.of_block (hk _ (by simp))⟩
    · obtain ⟨rfl, h1, h2, h3, h4⟩ := hr; exact ⟨rfl, (World.cell?_of_block (hk _ (by simp))).trans h1, (World.cell?_of_block (hk _ (by simp))).trans h2, (World.cell?_of_block (hk _ (by simp))).trans h3, (World.cell?_of_block (hk _ (by simp))).trans h4⟩
    · obtain ⟨rfl, h1, h2, h3, h4, h5⟩ := hr; exact ⟨rfl, (World.cell?_of_block (hk _ (by simp))).trans h1, (World.cell?_of_block (hk _ (by simp))).trans h2, (World.cell?_of_block (hk _ (by simp))).trans h3, (World.cell?_of_block (hk _ (by simp))).trans h4, (World.cell?_of_block (hk _ (by simp))).trans h5⟩
    · obtain ⟨rfl, h⟩ := hr; exact ⟨rfl, fun b hb => (hk b hb).trans (h b hb)⟩
  · intro j y hj hj2
    have h : j = 17 ∨ j = 18 ∨ j = 19 ∨ j = 20 := by omega
    rcases h with rfl | rfl | rfl | rfl
    · exact ⟨trivial, ⟨rfl, hrow⟩, fun b hb => by simp at hb; subst hb; exact hnb⟩
    · exact ⟨trivial, ⟨rfl, hbc⟩, fun b hb => by simp at hb; subst hb; omega⟩
    · exact ⟨trivial, ⟨rfl, hbx⟩, fun b hb => by simp at hb; subst hb; omega⟩
    · exact ⟨trivial, ⟨rfl, fun _ _ => rfl⟩, fun b hb => by simp at hb; have := hbb b hb; omega⟩
  · intro i j b hi hi2 hj hj2 hne2 hb hb'
    have h : i = 17 ∨ i = 18 ∨ i = 19 ∨ i = 20 := by omega
    have h' : j = 17 ∨ j = 18 ∨ j = 19 ∨ j = 20 := by omega
    rcases h with rfl | rfl | rfl | rfl <;> rcases h' with rfl | rfl | rfl | rfl <;> simp at hb hb' <;> (first | omega | (have := hbb b hb; omega) | (have := hbb b hb'; omega))
  · intro i o a w v g K hi ho hs hd hr hdj hbw hWw hK
    have hz : base ≤ w.heap.size := by omega
    have hsz' : ∀ (b i : Nat) (u : Value), (w.setCell ⟨b, i, none⟩ u).heap.size = w.heap.size := fun b i u => by simp [World.setCell]
    rcases lt17 hi with rfl | rfl | rfl | rfl | rfl | rfl | rfl | rfl | rfl | rfl | rfl | rfl | rfl | rfl | rfl | rfl | rfl
    · obtain ⟨ty, pos, af, e⟩ := o0; rw [ho] at e; obtain rfl := Option.some.inj e
      exact st_fieldC0 ((hs 5 (by decide)).trans h5) (hK _ [] _ rfl rfl hbw (Nat.le_refl _) (fun b hb => by simp at hb) (fun b hb _ => rfl))
    · obtain ⟨ty, pos, af, e⟩ := o1; rw [ho] at e; obtain rfl := Option.some.inj e
      obtain ⟨d0, s0⟩ := hd 0 (by simp [depsFB])
      have d0 : a.eval (.tmp 113) = v 0 := d0 (by decide)
      obtain ⟨⟨_, hbx1⟩, _⟩ := hr 18 (.inr (by simp [readsFB]))
      exact st_load25 (d0.trans s0) ⟨hbx1.1, hbx1.2.1, hbx1.2.2.1⟩ (hK _ [] _ rfl rfl hbw (Nat.le_refl _) (fun b hb => by simp at hb) (fun b hb _ => rfl))
    · obtain ⟨ty, pos, af, e⟩ := o2; rw [ho] at e; obtain rfl := Option.some.inj e
      exact st_none29 (hK _ [w.heap.size] _ trivial ⟨_, rfl, rfl, own_empty (new_at rfl) hz⟩ (hbw.alloc hz _) (by simp) (fun b hb => by simp at hb; subst hb; exact ⟨.inr (Nat.le_refl _), by simp⟩) (fun b hb _ => Below.heap_alloc _ _ _ hb))
    · obtain ⟨ty, pos, af, e⟩ := o3; rw [ho] at e; obtain rfl := Option.some.inj e
      exact st_move (v := .slice lA ln lc) ((hs 10 (by decide)).trans h10) (hK _ [] _ rfl rfl hbw (Nat.le_refl _) (fun b hb => by simp at hb) (fun b hb _ => rfl))
    · obtain ⟨ty, pos, af, e⟩ := o4; rw [ho] at e; obtain rfl := Option.some.inj e
      obtain ⟨d2, s2⟩ := hd 2 (by simp [depsFB])
      have d2 : a.eval (.tmp 115) = v 2 := d2 (by decide)
      obtain ⟨d3, s3⟩ := hd 3 (by simp [depsFB])
      have d3 : a.eval (.tmp 116) = v 3 := d3 (by decide)
      obtain ⟨⟨g1, eg, e1, ow⟩, q2⟩ := hr 2 (.inl (by simp [eatsFB]))
      obtain ⟨⟨er, hkb⟩, _⟩ := hr 20 (.inr (by simp [readsFB]))
      obtain ⟨q3, q4⟩ := q2 g1 (by rw [eg]; simp)
      refine wp_append_row (.tmp 115) (.tmp 116) 29 rfl base 50 i0 _ 5 56 Try.underlying29 hi0 hi1 hi2 hi3 rfl (by omega) g1 0 0 [] (d2.trans e1) ow lA ln lc xs (d3.trans s3) hlen hnil (fun ad h j u hu => (World.cell?_of_block (by rw [add_block]; exact hkb _ (hcl ad h).1)).trans ((hcl ad h).2 j u hu)) h1 (by unfold maxLen; omega) (by omega) hz (fun g' cap' w' ow' hg hor hlt => ?_)
      rw [Nat.zero_add, List.nil_append] at ow'
      rw [Nat.zero_add]
      refine hK _ [g'] w' trivial ⟨g', cap', rfl, rfl, ow'⟩ (hbw.grown hg hz (fun k hk => by injection hk with hk; omega)) hg.size (fun b hb => ?_) (fun b hb hne => hg.block b hb (fun e => by injection e with e; exact hne 2 (by simp [eatsFB]) (by rw [eg, e]; simp)))
      simp at hb; subst hb
      refine ⟨?_, hlt⟩
      rcases hor with h | h
      · exact .inl ⟨2, by simp [eatsFB], by rw [eg, h]; simp⟩
      · exact .inr (by omega)
    · obtain ⟨ty, pos, af, e⟩ := o5; rw [ho] at e; obtain rfl := Option.some.inj e
      exact st_move (v := .int .i64 kv) ((hs 3 (by decide)).trans h3) (hK _ [] _ rfl rfl hbw (Nat.le_refl _) (fun b hb => by simp at hb) (fun b hb _ => rfl))
    · obtain ⟨ty, pos, af, e⟩ := o6; rw [ho] at e; obtain rfl := Option.some.inj e
      refine st_numc (fun w' hb' => hK _ [] w' rfl rfl (hbw.trans (hb'.mono hz)) hb'.size (fun b hb => by simp at hb) (fun b hb _ => hb'.block b hb))
    · obtain ⟨ty, pos, af, e⟩ := o7; rw [ho] at e; obtain rfl := Option.some.inj e
      refine st_numc (fun w' hb' => hK _ [] w' rfl rfl (hbw.trans (hb'.mono hz)) hb'.size (fun b hb => by simp at hb) (fun b hb _ => hb'.block b hb))
    · obtain ⟨ty, pos, af, e⟩ := o8; rw [ho] at e; obtain rfl := Option.some.inj e
      obtain ⟨d6, s6⟩ := hd 6 (by simp [depsFB])
      have d6 : a.eval (.tmp 119) = v 6 := d6 (by decide)
      obtain ⟨d7, s7⟩ := hd 7 (by simp [depsFB])
      have d7 : a.eval (.tmp 120) = v 7 := d7 (by decide)
      exact st_two23 (d6.trans s6) (d7.trans s7) (hK _ [w.heap.size] _ trivial ⟨_, rfl, rfl, new_at rfl⟩ (hbw.alloc hz _) (by simp) (fun b hb => by simp at hb; subst hb; exact ⟨.inr (Nat.le_refl _), by simp⟩) (fun b hb _ => Below.heap_alloc _ _ _ hb))
    · obtain ⟨ty, pos, af, e⟩ := o9; rw [ho] at e; obtain rfl := Option.some.inj e
      obtain ⟨d8, s8⟩ := hd 8 (by simp [depsFB])
      have d8 : a.eval (.tmp 121) = v 8 := d8 (by decide)
      obtain ⟨⟨gk, eg, e1, hgk⟩, q2⟩ := hr 8 (.inl (by simp [eatsFB]))
      exact st_add25 (d8.trans e1) (hK _ [gk] _ trivial ⟨gk, rfl, rfl, hgk⟩ hbw (Nat.le_refl _) (fun b hb => by simp at hb; subst hb; exact ⟨.inl ⟨8, by simp [eatsFB], by rw [eg]; simp⟩, (q2 _ (by rw [eg]; simp)).2⟩) (fun b hb _ => rfl))
    · obtain ⟨ty, pos, af, e⟩ := o10; rw [ho] at e; obtain rfl := Option.some.inj e
      obtain ⟨d5, s5⟩ := hd 5 (by simp [depsFB])
      have d5 : a.eval (.tmp 118) = v 5 := d5 (by decide)
      obtain ⟨d9, s9⟩ := hd 9 (by simp [depsFB])
      have d9 : a.eval (.tmp 122) = v 9 := d9 (by decide)
      obtain ⟨⟨gk, eg, e1, hgk⟩, q2⟩ := hr 9 (.inl (by simp [eatsFB]))
      exact st_set (d5.trans s5) (d9.trans e1) (hK _ [gk] _ trivial ⟨gk, rfl, rfl, hgk⟩ hbw (Nat.le_refl _) (fun b hb => by simp at hb; subst hb; exact ⟨.inl ⟨9, by simp [eatsFB], by rw [eg]; simp⟩, (q2 _ (by rw [eg]; simp)).2⟩) (fun b hb _ => rfl))
    · obtain ⟨ty, pos, af, e⟩ := o11; rw [ho] at e; obtain rfl := Option.some.inj e
      obtain ⟨d10, s10⟩ := hd 10 (by simp [depsFB])
      have d10 : a.eval (.tmp 123) = v 10 := d10 (by decide)
      obtain ⟨⟨gk, eg, e1, hgk⟩, q2⟩ := hr 10 (.inl (by simp [eatsFB]))
      have qk := (q2 gk (by rw [eg]; simp)).2
      refine st_one29 (d10.trans e1) (hK _ [w.heap.size, gk] _ trivial ⟨_, gk, rfl, rfl, new_at rfl, (Below.heap_alloc _ _ _ qk).trans hgk⟩ (hbw.alloc hz _) (by simp) (fun b hb => ?_) (fun b hb _ => Below.heap_alloc _ _ _ hb))
      simp at hb
      rcases hb with rfl | rfl
      · exact ⟨.inr (Nat.le_refl _), by simp⟩
      · exact ⟨.inl ⟨10, by simp [eatsFB], by rw [eg]; simp⟩, by simp; omega⟩
    · obtain ⟨ty, pos, af, e⟩ := o12; rw [ho] at e; obtain rfl := Option.some.inj e
      obtain ⟨d4, s4⟩ := hd 4 (by simp [depsFB])
      have d4 : a.eval (.tmp 117) = v 4 := d4 (by decide)
      obtain ⟨d11, s11⟩ := hd 11 (by simp [depsFB])
      have d11 : a.eval (.tmp 124) = v 11 := d11 (by decide)
      obtain ⟨⟨g1, cp1, eg, e1, ow⟩, q2⟩ := hr 4 (.inl (by simp [eatsFB]))
      obtain ⟨⟨g11, gk, eg11, e11, hg11, hgk⟩, q11⟩ := hr 11 (.inl (by simp [eatsFB]))
      obtain ⟨q3, q4⟩ := q2 g1 (by rw [eg]; simp)
      obtain ⟨q5, q6⟩ := q11 gk (by rw [eg11]; simp)
      have hne1 := hdj 4 11 g1 (.inl (by simp [eatsFB])) (.inl (by simp [eatsFB])) (by omega) (by rw [eg]; simp)
      rw [eg11] at hne1
      have hgk1 : gk ≠ g1 := fun e => hne1 (by rw [e]; simp)
      refine wp_append_row (.tmp 117) (.tmp 124) 29 rfl base 50 i0 _ 5 56 Try.underlying29 hi0 hi1 hi2 hi3 rfl (by omega) g1 ln cp1 xs (d4.trans e1) ow (some ⟨g11, 0, none⟩) 1 1 [.int .i64 kv, .bool false, .int .i64 12, .int .i64 0, .slice (some ⟨gk, 0, none⟩) 2 2] (d11.trans e11) rfl (fun h => by cases h) (fun ad h j u hu => by
        injection h with h
        subst h
        exact World.news_of_block hg11 j u hu) (by simp [Value.oneCell']) (by unfold maxLen; omega) (by omega) hz (fun g' cap' w' ow' hg hor hlt => ?_)
      refine hK _ [g', gk] w' trivial ⟨g', cap', gk, rfl, rfl, ow', (hg.block gk q6 (fun e => by injection e with e; exact hgk1 e)).trans hgk⟩ (hbw.grown hg hz (fun k hk => by injection hk with hk; omega)) hg.size (fun b hb => ?_) (fun b hb hne => hg.block b hb (fun e => by injection e with e; exact hne 4 (by simp [eatsFB]) (by rw [eg, e]; simp)))
      simp at hb
      rcases hb with rfl | rfl
      · refine ⟨?_, hlt⟩
        rcases hor with h | h
        · exact .inl ⟨4, by simp [eatsFB], by rw [eg, h]; simp⟩
        · exact .inr (by omega)
      · exact ⟨.inl ⟨11, by simp [eatsFB], by rw [eg11]; simp⟩, by have := hg.size; omega⟩
    · obtain ⟨ty, pos, af, e⟩ := o13; rw [ho] at e; obtain rfl := Option.some.inj e
      obtain ⟨d1, s1⟩ := hd 1 (by simp [depsFB])
      have d1 : a.eval (.tmp 114) = v 1 := d1 (by decide)
      obtain ⟨d12, s12⟩ := hd 12 (by simp [depsFB])
      have d12 : a.eval (.tmp 125) = v 12 := d12 (by decide)
      obtain ⟨⟨g1, cp, gk, eg, e1, ow, hgk⟩, q2⟩ := hr 12 (.inl (by simp [eatsFB]))
      exact st_cmd (d1.trans s1) (d12.trans e1) (hK _ [g1, gk] _ trivial ⟨g1, cp, gk, rfl, rfl, ow, hgk⟩ hbw (Nat.le_refl _) (fun b hb => ⟨.inl ⟨12, by simp [eatsFB], by rw [eg]; exact hb⟩, (q2 b (by rw [eg]; exact hb)).2⟩) (fun b hb _ => rfl))
    · obtain ⟨ty, pos, af, e⟩ := o14; rw [ho] at e; obtain rfl := Option.some.inj e
      obtain ⟨d13, s13⟩ := hd 13 (by simp [depsFB])
      have d13 : a.eval (.tmp 126) = v 13 := d13 (by decide)
      obtain ⟨⟨g1, cp, gk, eg, e1, ow, hgk⟩, q2⟩ := hr 13 (.inl (by simp [eatsFB]))
      refine st_one26 (d13.trans e1) (hK _ [w.heap.size, g1, gk] _ trivial ⟨_, g1, cp, gk, rfl, rfl, new_at rfl, ow.alloc _, (Below.heap_alloc _ _ _ (q2 gk (by rw [eg]; simp)).2).trans hgk⟩ (hbw.alloc hz _) (by simp) (fun b hb => ?_) (fun b hb _ => Below.heap_alloc _ _ _ hb))
      rcases List.mem_cons.1 hb with rfl | hb
      · exact ⟨.inr (Nat.le_refl _), by simp⟩
      · exact ⟨.inl ⟨13, by simp [eatsFB], by rw [eg]; exact hb⟩, by have := (q2 b (by rw [eg]; exact hb)).2; simp; omega⟩
    · obtain ⟨ty, pos, af, e⟩ := o15; rw [ho] at e; obtain rfl := Option.some.inj e
      exact st_field3 ((hs 4 (by decide)).trans h4) (hK _ [] _ rfl rfl hbw (Nat.le_refl _) (fun b hb => by simp at hb) (fun b hb _ => rfl))
    · obtain ⟨ty, pos, af, e⟩ := o16; rw [ho] at e; obtain rfl := Option.some.inj e
      obtain ⟨d15, s15⟩ := hd 15 (by simp [depsFB])
      have d15 : a.eval (.tmp 128) = v 15 := d15 (by decide)
      obtain ⟨d14, s14⟩ := hd 14 (by simp [depsFB])
      have d14 : a.eval (.tmp 127) = v 14 := d14 (by decide)
      obtain ⟨⟨gc, g1, cp, gk, eg, e1, hgc, ow, hgk⟩, q2⟩ := hr 14 (.inl (by simp [eatsFB]))
      obtain ⟨⟨er, hrw⟩, q5⟩ := hr 17 (.inl (by simp [eatsFB]))
      have hne : ∀ b ∈ [gc, g1, gk], b ≠ nb := fun b hb h => by
        have := hdj 14 17 b (.inl (by simp [eatsFB])) (.inl (by simp [eatsFB])) (by omega) (by rw [eg]; exact hb)
        rw [er, h] at this
        exact this (by simp)
      obtain ⟨q6, q7⟩ := q5 nb (by rw [er]; simp)
      refine st_store26 (b := nb) (i := 7) (f := mV x) (d15.trans s15) (d14.trans e1) hrw (by omega) (hK undef [nb, gc, g1, gk] _ trivial ⟨gc, g1, cp, gk, rfl, hrw.set 7 _, (Below.heap_setCell _ _ _ _ (by exact hne gc (by simp))).trans hgc, own_at ow (fun b hb => Below.heap_setCell _ _ _ _ (by injection hb with hb; subst hb; exact hne _ (by simp))), (Below.heap_setCell _ _ _ _ (by exact hne gk (by simp))).trans hgk⟩ (hbw.setCell (by exact q6) _) (Nat.le_of_eq (hsz' _ _ _).symm) (fun b hb => ?_) (fun b hb hne => Below.heap_setCell _ _ _ _ (by show b ≠ nb; exact fun h => hne 17 (by simp [eatsFB]) (by rw [er, h]; simp))))
      rw [hsz']
      rcases List.mem_cons.1 hb with rfl | hb
      · exact ⟨.inl ⟨17, by simp [eatsFB], by rw [er]; simp⟩, q7⟩
      · exact ⟨.inl ⟨14, by simp [eatsFB], by rw [eg]; exact hb⟩, (q2 b (by rw [eg]; exact hb)).2⟩
  · intro u g w hS hR hD hbw hWw
    have hall : ∀ j ∈ [16, 18, 19, 20], ∀ e, e < 17 → j ∉ eatsFB e := by decide +kernel
    have hnf : ∀ j, j ∈ [16, 18, 19, 20] → ∀ e, e < 17 → j ∉ eatsFB e := fun j hj e he => hall j hj e he
    obtain ⟨⟨gc, g1, cp, gk, e1, hrow, hgc, ow, hgk⟩, _⟩ := hR 16 (by omega) (hnf _ (by simp))
    exact hend u gc g1 cp gk w hrow hgc ow hgk (hR 18 (by omega) (hnf _ (by simp))).1.2 (hR 19 (by omega) (hnf _ (by simp))).1.2 (hR 20 (by omega) (hnf _ (by simp))).1.2 hbw
end Go.Proofs.Ytohegmnfmomjaaa
