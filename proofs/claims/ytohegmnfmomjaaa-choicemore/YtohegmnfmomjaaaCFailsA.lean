/- 'm.Env = []Command{{Guard: c.Guard, Sets: append(append([]Set{}, sets...), Set{..})}}' in a region that draws its order. -/
import Derived.Test.YtohegmnfmomjaaaCAny
set_option maxRecDepth 100000
namespace Go.Proofs.Ytohegmnfmomjaaa
open Go.RowKit Ex
set_option linter.unusedSimpArgs false
set_option linter.unusedVariables false

theorem add_block (ad : Addr) (j : Nat) : (ad.add j).block = ad.block := by unfold Addr.add; split <;> rfl
theorem lt17 {i : Nat} (h : i < 17) : i = 0 ∨ i = 1 ∨ i = 2 ∨ i = 3 ∨ i = 4 ∨ i = 5 ∨ i = 6 ∨ i = 7 ∨ i = 8 ∨ i = 9 ∨ i = 10 ∨ i = 11 ∨ i = 12 ∨ i = 13 ∨ i = 14 ∨ i = 15 ∨ i = 16 := by omega
theorem lt21 {i : Nat} (h : i < 21) : i = 0 ∨ i = 1 ∨ i = 2 ∨ i = 3 ∨ i = 4 ∨ i = 5 ∨ i = 6 ∨ i = 7 ∨ i = 8 ∨ i = 9 ∨ i = 10 ∨ i = 11 ∨ i = 12 ∨ i = 13 ∨ i = 14 ∨ i = 15 ∨ i = 16 ∨ i = 17 ∨ i = 18 ∨ i = 19 ∨ i = 20 := by omega
set_option maxHeartbeats 400000 in
theorem num_any6 (z : Int) (w : World) : Calls Try.prog 21 #[.int .i64 z] w fun e w' => e = .returned (.agg #[.int .i64 1, .int .i64 z, .slice none 0 0]) ∧ Below w.heap.size w w' := by
  go_enter Try.func21, Try.ntmps21
  go_wp2_with fail
  refine bodyPost_ret (v := .agg #[.int .i64 1, .int .i64 z, .slice none 0 0]) (by simp [results, Try.results21, go_sem]) rfl ?_
  exact ⟨rfl, (Below.refl _ _).alloc (Nat.le_refl _) _⟩
section
variable {a : Act} {w : World} {K : Act → World → Prop} {Q : Exit → Act → World → Prop} {d ty : Nat} {pos : String} {af : Array Edge} {op nn : Int} {A : Option Addr} {len cap : Nat}
theorem st_move {t : Nat} {v : Value} (he : a.eval (.tmp t) = v) (hK : K (a.put (some d) v) w) : Oper.wp Try.prog ⟨some d, .move (.tmp t), ty, pos, af, none⟩ a w K Q := by
  refine wp_val ?_ hK
  simp only [execOp, he]
  go_simp
theorem st_fieldC0 {t b : Nat} (he : a.eval (.tmp t) = .pointer (some ⟨b, 0, none⟩)) (hK : K (a.put (some d) (.pointer (some ⟨b, 0, none⟩))) w) : Oper.wp Try.prog ⟨some d, .fieldAddr 31 (.tmp t) 0, ty, pos, af, none⟩ a w K Q := by
  have he' : a.tmps[t]?.getD undef = .pointer (some ⟨b, 0, none⟩) := by simpa [Act.eval] using he
  refine wp_val ?_ hK
  simp only [execOp]
  go_simp
theorem st_fieldV4 {t b : Nat} (he : a.eval (.tmp t) = .pointer (some ⟨b, 0, none⟩)) (hK : K (a.put (some d) (.pointer (some ⟨b, 4, none⟩))) w) : Oper.wp Try.prog ⟨some d, .fieldAddr 48 (.tmp t) 4, ty, pos, af, none⟩ a w K Q := by
  have he' : a.tmps[t]?.getD undef = .pointer (some ⟨b, 0, none⟩) := by simpa [Act.eval] using he
  refine wp_val ?_ hK
  simp only [execOp]
  go_simp
theorem st_load3 {t b i : Nat} {z : Int} (he : a.eval (.tmp t) = .pointer (some ⟨b, i, none⟩)) (hc : w.cell? ⟨b, i, none⟩ = some (.int .i64 z)) (hK : K (a.put (some d) (.int .i64 z)) w) : Oper.wp Try.prog ⟨some d, .load 3 (.tmp t), ty, pos, af, none⟩ a w K Q := by
  have he' : a.tmps[t]?.getD undef = .pointer (some ⟨b, i, none⟩) := by simpa [Act.eval] using he
  refine wp_val ?_ hK
  simp only [execOp]
  go_simp
theorem st_add1 {t : Nat} {z : Int} (he : a.eval (.tmp t) = .int .i64 z) (hz : -1000 ≤ z ∧ z ≤ 1000) (hK : K (a.put (some d) (.int .i64 (z + 1))) w) : Oper.wp Try.prog ⟨some d, .binOp .add 3 (.tmp t) (.const (.int .i64 1)) 3, ty, pos, af, none⟩ a w K Q := by
  have he' : a.tmps[t]?.getD undef = .int .i64 z := by simpa [Act.eval] using he
  have hw : wrap64 (z + 1) = z + 1 := Dom.wrap64_mid _ (by omega) (by omega)
  refine wp_val (v := .int .i64 (z + 1)) ?_ hK
  simp only [execOp]
  go_simp
  rw [IntKind.wrap_i64]; omega
theorem st_num {t : Nat} {z : Int} (he : a.eval (.tmp t) = .int .i64 z) (hK : ∀ w', Below w.heap.size w w' → K (a.put (some d) (.agg #[.int .i64 1, .int .i64 z, .slice none 0 0])) w') : Oper.wp Try.prog ⟨some d, .call { callee := .value (.func 21), args := #[.tmp t], argTypes := #[3] }, ty, pos, af, none⟩ a w K Q := by
  have h2 : a.tmps[t]?.getD undef = .int .i64 z := by simpa [Act.eval] using he
  unfold Oper.wp
  go_simp
  refine (num_any6 z w).mono ?_
  rintro e w' ⟨rfl, hb⟩
  exact hK w' hb
theorem st_numc {z : Int} (hK : ∀ w', Below w.heap.size w w' → K (a.put (some d) (.agg #[.int .i64 1, .int .i64 z, .slice none 0 0])) w') : Oper.wp Try.prog ⟨some d, .call { callee := .value (.func 21), args := #[.const (.int .i64 z)], argTypes := #[3] }, ty, pos, af, none⟩ a w K Q := by
  unfold Oper.wp
  go_simp
  refine (num_any6 z w).mono ?_
  rintro e w' ⟨rfl, hb⟩
  exact hK w' hb
theorem st_none29 (hK : K (a.put (some d) (.slice (some ⟨w.heap.size, 0, none⟩) 0 0)) (w.alloc (.cells #[] 50))) : Oper.wp Try.prog ⟨some d, .buildSlice 29 0 #[], ty, pos, af, none⟩ a w K Q := by
  refine wp_val ?_ hK
  simp only [execOp]
  go_simp
theorem st_set {t s : Nat} {k : Int} (he : a.eval (.tmp t) = .int .i64 k) (hs : a.eval (.tmp s) = .agg #[.int .i64 op, .int .i64 nn, .slice A len cap]) (hK : K (a.put (some d) (.agg #[.int .i64 k, .bool false, .int .i64 op, .int .i64 nn, .slice A len cap])) w) : Oper.wp Try.prog ⟨some d, .build 50 #[(0, .tmp t), (2, .tmp s)], ty, pos, af, none⟩ a w K Q := by
  have he' : a.tmps[t]?.getD undef = .int .i64 k := by simpa [Act.eval] using he
  have hs' : a.tmps[s]?.getD undef = .agg #[.int .i64 op, .int .i64 nn, .slice A len cap] := by simpa [Act.eval] using hs
  refine wp_val ?_ hK
  simp only [execOp]
  go_simp
theorem st_one29 {t : Nat} {k : Int} (he : a.eval (.tmp t) = .agg #[.int .i64 k, .bool false, .int .i64 op, .int .i64 nn, .slice A len cap]) (hK : K (a.put (some d) (.slice (some ⟨w.heap.size, 0, none⟩) 1 1)) (w.alloc (.cells #[.int .i64 k, .bool false, .int .i64 op, .int .i64 nn, .slice A len cap] 50))) : Oper.wp Try.prog ⟨some d, .buildSlice 29 1 #[(0, .tmp t)], ty, pos, af, none⟩ a w K Q := by
  have he' : a.tmps[t]?.getD undef = .agg #[.int .i64 k, .bool false, .int .i64 op, .int .i64 nn, .slice A len cap] := by simpa [Act.eval] using he
  refine wp_val ?_ hK
  simp only [execOp]
  go_simp
theorem st_two23 {t s : Nat} (he : a.eval (.tmp t) = .agg #[.int .i64 1, .int .i64 1000, .slice none 0 0]) (hs : a.eval (.tmp s) = .agg #[.int .i64 1, .int .i64 1, .slice none 0 0]) (hK : K (a.put (some d) (.slice (some ⟨w.heap.size, 0, none⟩) 2 2)) (w.alloc (.cells #[.int .i64 1, .int .i64 1000, .slice none 0 0, .int .i64 1, .int .i64 1, .slice none 0 0] 25))) : Oper.wp Try.prog ⟨some d, .buildSlice 23 2 #[(0, .tmp t), (1, .tmp s)], ty, pos, af, none⟩ a w K Q := by
  have he' : a.tmps[t]?.getD undef = .agg #[.int .i64 1, .int .i64 1000, .slice none 0 0] := by simpa [Act.eval] using he
  have hs' : a.tmps[s]?.getD undef = .agg #[.int .i64 1, .int .i64 1, .slice none 0 0] := by simpa [Act.eval] using hs
  refine wp_val ?_ hK
  simp only [execOp]
  go_simp
theorem st_add25 {t : Nat} (he : a.eval (.tmp t) = .slice A len cap) (hK : K (a.put (some d) (.agg #[.int .i64 12, .int .i64 0, .slice A len cap])) w) : Oper.wp Try.prog ⟨some d, .build 25 #[(0, .const (.int .i64 12)), (2, .tmp t)], ty, pos, af, none⟩ a w K Q := by
  have he' : a.tmps[t]?.getD undef = .slice A len cap := by simpa [Act.eval] using he
  refine wp_val ?_ hK
  simp only [execOp]
  go_simp
theorem st_cmd {t s : Nat} {O : Option Addr} {n c : Nat} (he : a.eval (.tmp t) = .agg #[.int .i64 op, .int .i64 nn, .slice A len cap]) (hs : a.eval (.tmp s) = .slice O n c) (hK : K (a.put (some d) (.agg #[.int .i64 op, .int .i64 nn, .slice A len cap, .slice O n c])) w) : Oper.wp Try.prog ⟨some d, .build 31 #[(0, .tmp t), (1, .tmp s)], ty, pos, af, none⟩ a w K Q := by
  have he' : a.tmps[t]?.getD undef = .agg #[.int .i64 op, .int .i64 nn, .slice A len cap] := by simpa [Act.eval] using he
  have hs' : a.tmps[s]?.getD undef = .slice O n c := by simpa [Act.eval] using hs
  refine wp_val ?_ hK
  simp only [execOp]
  go_simp
theorem st_one26 {t : Nat} {O : Option Addr} {n c : Nat} (he : a.eval (.tmp t) = .agg #[.int .i64 op, .int .i64 nn, .slice A len cap, .slice O n c]) (hK : K (a.put (some d) (.slice (some ⟨w.heap.size, 0, none⟩) 1 1)) (w.alloc (.cells #[.int .i64 op, .int .i64 nn, .slice A len cap, .slice O n c] 31))) : Oper.wp Try.prog ⟨some d, .buildSlice 26 1 #[(0, .tmp t)], ty, pos, af, none⟩ a w K Q := by
  have he' : a.tmps[t]?.getD undef = .agg #[.int .i64 op, .int .i64 nn, .slice A len cap, .slice O n c] := by simpa [Act.eval] using he
  refine wp_val ?_ hK
  simp only [execOp]
  go_simp
end
def dstFA : Nat → Nat
  | 0 => 94
  | 1 => 95
  | 2 => 96
  | 3 => 97
  | 4 => 98
  | 5 => 99
  | 6 => 100
  | 7 => 101
  | 8 => 102
  | 9 => 103
  | 10 => 104
  | 11 => 105
  | 12 => 106
  | 13 => 107
  | 14 => 108
  | 15 => 109
  | 16 => 1016
  | k + 17 => 1017 + k
def depsFA : Nat → List Nat
  | 1 => [0]
  | 4 => [2, 3]
  | 7 => [6]
  | 8 => [7]
  | 9 => [8]
  | 10 => [5, 9]
  | 11 => [10]
  | 12 => [4, 11]
  | 13 => [1, 12]
  | 14 => [13]
  | 16 => [15, 14]
  | _ => []
def eatsFA : Nat → List Nat
  | 4 => [2]
  | 12 => [4]
  | 13 => [12]
  | 14 => [13]
  | 16 => [14, 17]
  | _ => []
def readsFA : Nat → List Nat
  | 1 => [18]
  | 4 => [20]
  | 7 => [19]
  | 12 => [11]
  | _ => []
def SFA (nb cb xb : Nat) (op nn : Int) (A : Option Addr) (len cap : Nat) (lA : Option Addr) (ln lc : Nat) (kv hv : Int) : Nat → Value → Prop
  | 0, v => v = .pointer (some ⟨cb, 0, none⟩)
  | 1, v => v = .agg #[.int .i64 op, .int .i64 nn, .slice A len cap]
  | 3, v => v = .slice lA ln lc
  | 5, v => v = .int .i64 kv
  | 6, v => v = .pointer (some ⟨xb, 4, none⟩)
  | 7, v => v = .int .i64 hv
  | 8, v => v = .int .i64 (hv + 1)
  | 9, v => v = .agg #[.int .i64 1, .int .i64 (hv + 1), .slice none 0 0]
  | 10, v => v = .agg #[.int .i64 kv, .bool false, .int .i64 1, .int .i64 (hv + 1), .slice none 0 0]
  | 15, v => v = .pointer (some ⟨nb, 7, none⟩)
  | _, _ => True
def RFA (base nb cb xb : Nat) (bs : List Nat) (W : World) (x : M8) (v0 : Dom.V) (op nn : Int) (A : Option Addr) (len cap : Nat) (tA : Option Addr) (tn tc : Nat) (ln : Nat) (xs : List Value) (kv hv : Int) : Nat → Value → World → List Nat → Prop
  | 2, v, w, gi => ∃ g, gi = [g] ∧ v = .slice (some ⟨g, 0, none⟩) 0 0 ∧ w.ownsRow base 50 5 (.slice (some ⟨g, 0, none⟩) 0 0) 0 []
  | 4, v, w, gi => ∃ g cp, gi = [g] ∧ v = .slice (some ⟨g, 0, none⟩) ln cp ∧ w.ownsRow base 50 5 (.slice (some ⟨g, 0, none⟩) ln cp) ln xs
  | 11, v, w, gi => ∃ g, gi = [g] ∧ v = .slice (some ⟨g, 0, none⟩) 1 1 ∧ w.heap[g]? = some (.cells #[.int .i64 kv, .bool false, .int .i64 1, .int .i64 (hv + 1), .slice none 0 0] 50 (0, 0))
  | 12, v, w, gi => ∃ g cp, gi = [g] ∧ v = .slice (some ⟨g, 0, none⟩) (ln + 1) cp ∧ w.ownsRow base 50 5 (.slice (some ⟨g, 0, none⟩) (ln + 1) cp) (ln + 1) (xs ++ [.int .i64 kv, .bool false, .int .i64 1, .int .i64 (hv + 1), .slice none 0 0])
  | 13, v, w, gi => ∃ g cp, gi = [g] ∧ v = .agg #[.int .i64 op, .int .i64 nn, .slice A len cap, .slice (some ⟨g, 0, none⟩) (ln + 1) cp] ∧ w.ownsRow base 50 5 (.slice (some ⟨g, 0, none⟩) (ln + 1) cp) (ln + 1) (xs ++ [.int .i64 kv, .bool false, .int .i64 1, .int .i64 (hv + 1), .slice none 0 0])
  | 14, v, w, gi => ∃ gc g cp, gi = [gc, g] ∧ v = .slice (some ⟨gc, 0, none⟩) 1 1 ∧ w.heap[gc]? = some (.cells #[.int .i64 op, .int .i64 nn, .slice A len cap, .slice (some ⟨g, 0, none⟩) (ln + 1) cp] 31 (0, 0)) ∧ w.ownsRow base 50 5 (.slice (some ⟨g, 0, none⟩) (ln + 1) cp) (ln + 1) (xs ++ [.int .i64 kv, .bool false, .int .i64 1, .int .i64 (hv + 1), .slice none 0 0])
  | 16, _, w, gi => ∃ gc g cp, gi = [nb, gc, g] ∧ w.rowIs nb 28 12 (fun i => if i = 7 then .slice (some ⟨gc, 0, none⟩) 1 1 else mV x i) ∧ w.heap[gc]? = some (.cells #[.int .i64 op, .int .i64 nn, .slice A len cap, .slice (some ⟨g, 0, none⟩) (ln + 1) cp] 31 (0, 0)) ∧ w.ownsRow base 50 5 (.slice (some ⟨g, 0, none⟩) (ln + 1) cp) (ln + 1) (xs ++ [.int .i64 kv, .bool false, .int .i64 1, .int .i64 (hv + 1), .slice none 0 0])
  | 17, _, w, gi => gi = [nb] ∧ w.rowIs nb 28 12 (mV x)
  | 18, _, w, gi => gi = [cb] ∧ BoxC w cb op nn A len cap tA tn tc
  | 19, _, w, gi => gi = [xb] ∧ Dom.Box5 w xb v0
  | 20, _, w, gi => gi = bs ∧ ∀ b ∈ bs, w.heap[b]? = W.heap[b]?
  | _, _, _, gi => gi = []
set_option maxHeartbeats 4000000 in
theorem fails_regionA {id nb cb xb base ln lc : Nat} {bs : List Nat} {ops : Array Oper} {Q : Exit → Act → World → Prop} {a0 : Act} {W : World} {x : M8} {v0 : Dom.V} {op nn : Int} {A : Option Addr} {len cap : Nat} {tA : Option Addr} {tn tc : Nat} {lA : Option Addr} {xs : List Value} {kv hv : Int}
    (hm : Try.prog.follows .mixedOrders = true) (hsz : ops.size = 17) (hac : ownAc ops = true) (hdep : ownDeps ops depsFA = true)
    (o0 : ∃ ty pos af, ops[0]? = some ⟨some 94, .fieldAddr 31 (.tmp 5) 0, ty, pos, af, none⟩)
    (o1 : ∃ ty pos af, ops[1]? = some ⟨some 95, .load 25 (.tmp 94), ty, pos, af, none⟩)
    (o2 : ∃ ty pos af, ops[2]? = some ⟨some 96, .buildSlice 29 0 #[], ty, pos, af, none⟩)
    (o3 : ∃ ty pos af, ops[3]? = some ⟨some 97, .move (.tmp 10), ty, pos, af, none⟩)
    (o4 : ∃ ty pos af, ops[4]? = some ⟨some 98, .call { callee := .builtin .append, args := #[.tmp 96, .tmp 97], argTypes := #[29, 29] }, ty, pos, af, none⟩)
    (o5 : ∃ ty pos af, ops[5]? = some ⟨some 99, .move (.tmp 3), ty, pos, af, none⟩)
    (o6 : ∃ ty pos af, ops[6]? = some ⟨some 100, .fieldAddr 48 (.tmp 9) 4, ty, pos, af, none⟩)
    (o7 : ∃ ty pos af, ops[7]? = some ⟨some 101, .load 3 (.tmp 100), ty, pos, af, none⟩)
    (o8 : ∃ ty pos af, ops[8]? = some ⟨some 102, .binOp .add 3 (.tmp 101) (.const (.int .i64 1)) 3, ty, pos, af, none⟩)
    (o9 : ∃ ty pos af, ops[9]? = some ⟨some 103, .call { callee := .value (.func 21), args := #[.tmp 102], argTypes := #[3] }, ty, pos, af, none⟩)
    (o10 : ∃ ty pos af, ops[10]? = some ⟨some 104, .build 50 #[(0, .tmp 99), (2, .tmp 103)], ty, pos, af, none⟩)
    (o11 : ∃ ty pos af, ops[11]? = some ⟨some 105, .buildSlice 29 1 #[(0, .tmp 104)], ty, pos, af, none⟩)
    (o12 : ∃ ty pos af, ops[12]? = some ⟨some 106, .call { callee := .builtin .append, args := #[.tmp 98, .tmp 105], argTypes := #[29, 29] }, ty, pos, af, none⟩)
    (o13 : ∃ ty pos af, ops[13]? = some ⟨some 107, .build 31 #[(0, .tmp 95), (1, .tmp 106)], ty, pos, af, none⟩)
    (o14 : ∃ ty pos af, ops[14]? = some ⟨some 108, .buildSlice 26 1 #[(0, .tmp 107)], ty, pos, af, none⟩)
    (o15 : ∃ ty pos af, ops[15]? = some ⟨some 109, .fieldAddr 28 (.tmp 4) 3, ty, pos, af, none⟩)
    (o16 : ∃ ty pos af, ops[16]? = some ⟨none, .store 26 (.tmp 109) (.tmp 108), ty, pos, af, none⟩)
    (hts : 110 ≤ a0.tmps.size) (h3 : a0.eval (.tmp 3) = .int .i64 kv) (h4 : a0.eval (.tmp 4) = .pointer (some ⟨nb, 0, none⟩)) (h5 : a0.eval (.tmp 5) = .pointer (some ⟨cb, 0, none⟩)) (h9 : a0.eval (.tmp 9) = .pointer (some ⟨xb, 0, none⟩)) (h10 : a0.eval (.tmp 10) = .slice lA ln lc)
    (hbc : BoxC W cb op nn A len cap tA tn tc) (hbx : Dom.Box5 W xb v0) (hhi : v0.hi = hv) (hhi0 : -1000 ≤ hv ∧ hv ≤ 1000) (hrow : W.rowIs nb 28 12 (mV x)) (hnb : base ≤ nb ∧ nb < W.heap.size) (hcb : nb < cb ∧ cb < W.heap.size) (hxb : cb < xb ∧ xb < W.heap.size) (hbb : ∀ b ∈ bs, xb < b ∧ b < W.heap.size) (hbase : base ≤ W.heap.size)
    (hlen : xs.length = ln * 5) (hnil : lA = none → ln = 0 ∧ lc = 0) (hcl : ∀ ad, lA = some ad → ad.block ∈ bs ∧ ∀ (j : Nat) u, xs[j]? = some u → W.cell? (ad.add j) = some u) (h1 : ∀ u ∈ xs, u.oneCell' = true) (hl : ln ≤ 100)
    (hend : ∀ (u : Nat → Value) (gc g cp : Nat) (w : World), w.rowIs nb 28 12 (fun i => if i = 7 then .slice (some ⟨gc, 0, none⟩) 1 1 else mV x i) → w.heap[gc]? = some (.cells #[.int .i64 op, .int .i64 nn, .slice A len cap, .slice (some ⟨g, 0, none⟩) (ln + 1) cp] 31 (0, 0)) → w.ownsRow base 50 5 (.slice (some ⟨g, 0, none⟩) (ln + 1) cp) (ln + 1) (xs ++ [.int .i64 kv, .bool false, .int .i64 1, .int .i64 (hv + 1), .slice none 0 0]) → BoxC w cb op nn A len cap tA tn tc → Dom.Box5 w xb v0 → (∀ b ∈ bs, w.heap[b]? = W.heap[b]?) → Below base W w → Q .normal (sel [94, 95, 96, 97, 98, 99, 100, 101, 102, 103, 104, 105, 106, 107, 108, 109] a0 u) w) :
    (Code.region id ops true).wp Try.prog Q a0 W := by
  obtain ⟨i0, hi0, hi1, hi2, hi3⟩ := info_parts info50
  refine region_res (n := 17) (N := 21) (base := base) [94, 95, 96, 97, 98, 99, 100, 101, 102, 103, 104, 105, 106, 107, 108, 109] dstFA depsFA eatsFA readsFA (fun j => if j = 17 then [nb] else if j = 18 then [cb] else if j = 19 then [xb] else bs) (SFA nb cb xb op nn A len cap lA ln lc kv hv) (RFA base nb cb xb bs W x v0 op nn A len cap tA tn tc ln xs kv hv) hm hsz (by omega) hac hdep hbase ?_ ?_ ?_ ?_ ?_ ?_ ?_ ?_ ?_ ?_ ?_
  · intro i j hi h
    have hall : ∀ i, i < 17 → ∀ j ∈ eatsFA i ++ readsFA i, (j ∈ depsFA i ∨ 17 ≤ j) ∧ j < 21 := by decide +kernel
    exact hall i hi j (List.mem_append.2 h)
  · intro i i' j hi hi' h h'
    have hall : ∀ i, i < 17 → ∀ i', i' < 17 → ∀ j ∈ eatsFA i, j ∈ eatsFA i' → i = i' := by decide +kernel
    exact hall i hi i' hi' j h h'
  · intro i e j hi he h h'
    have hall : ∀ i, i < 17 → ∀ e, e < 17 → ∀ j ∈ readsFA i, j ∈ eatsFA e → i ∈ depsFA e := by decide +kernel
    exact hall i hi e he j h h'
  · intro i j hi h
    have hall : ∀ i, i < 17 → ∀ j ∈ depsFA i, j < i := by decide +kernel
    exact hall i hi j h
  · intro i o ho
    have hi : i < 17 := by rw [← hsz]; exact (Array.getElem?_eq_some_iff.1 ho).1
    rcases lt17 hi with rfl | rfl | rfl | rfl | rfl | rfl | rfl | rfl | rfl | rfl | rfl | rfl | rfl | rfl | rfl | rfl | rfl
    · obtain ⟨ty, pos, af, e⟩ := o0; rw [ho] at e; obtain rfl := Option.some.inj e; exact .inl ⟨rfl, by decide, by show 94 < _; omega⟩
    · obtain ⟨ty, pos, af, e⟩ := o1; rw [ho] at e; obtain rfl := Option.some.inj e; exact .inl ⟨rfl, by decide, by show 95 < _; omega⟩
    · obtain ⟨ty, pos, af, e⟩ := o2; rw [ho] at e; obtain rfl := Option.some.inj e; exact .inl ⟨rfl, by decide, by show 96 < _; omega⟩
    · obtain ⟨ty, pos, af, e⟩ := o3; rw [ho] at e; obtain rfl := Option.some.inj e; exact .inl ⟨rfl, by decide, by show 97 < _; omega⟩
    · obtain ⟨ty, pos, af, e⟩ := o4; rw [ho] at e; obtain rfl := Option.some.inj e; exact .inl ⟨rfl, by decide, by show 98 < _; omega⟩
    · obtain ⟨ty, pos, af, e⟩ := o5; rw [ho] at e; obtain rfl := Option.some.inj e; exact .inl ⟨rfl, by decide, by show 99 < _; omega⟩
    · obtain ⟨ty, pos, af, e⟩ := o6; rw [ho] at e; obtain rfl := Option.some.inj e; exact .inl ⟨rfl, by decide, by show 100 < _; omega⟩
    · obtain ⟨ty, pos, af, e⟩ := o7; rw [ho] at e; obtain rfl := Option.some.inj e; exact .inl ⟨rfl, by decide, by show 101 < _; omega⟩
    · obtain ⟨ty, pos, af, e⟩ := o8; rw [ho] at e; obtain rfl := Option.some.inj e; exact .inl ⟨rfl, by decide, by show 102 < _; omega⟩
    · obtain ⟨ty, pos, af, e⟩ := o9; rw [ho] at e; obtain rfl := Option.some.inj e; exact .inl ⟨rfl, by decide, by show 103 < _; omega⟩
    · obtain ⟨ty, pos, af, e⟩ := o10; rw [ho] at e; obtain rfl := Option.some.inj e; exact .inl ⟨rfl, by decide, by show 104 < _; omega⟩
    · obtain ⟨ty, pos, af, e⟩ := o11; rw [ho] at e; obtain rfl := Option.some.inj e; exact .inl ⟨rfl, by decide, by show 105 < _; omega⟩
    · obtain ⟨ty, pos, af, e⟩ := o12; rw [ho] at e; obtain rfl := Option.some.inj e; exact .inl ⟨rfl, by decide, by show 106 < _; omega⟩
    · obtain ⟨ty, pos, af, e⟩ := o13; rw [ho] at e; obtain rfl := Option.some.inj e; exact .inl ⟨rfl, by decide, by show 107 < _; omega⟩
    · obtain ⟨ty, pos, af, e⟩ := o14; rw [ho] at e; obtain rfl := Option.some.inj e; exact .inl ⟨rfl, by decide, by show 108 < _; omega⟩
    · obtain ⟨ty, pos, af, e⟩ := o15; rw [ho] at e; obtain rfl := Option.some.inj e; exact .inl ⟨rfl, by decide, by show 109 < _; omega⟩
    · obtain ⟨ty, pos, af, e⟩ := o16; rw [ho] at e; obtain rfl := Option.some.inj e; exact .inr ⟨rfl, by decide⟩
  · intro i j hi hj h
    have hall : ∀ i, i < 21 → ∀ j, j < 21 → dstFA i = dstFA j → i = j := by decide +kernel
    exact hall i hi j hj h
  · intro j y w w' g hj hr hbw hbw' hk
    rcases lt21 hj with rfl | rfl | rfl | rfl | rfl | rfl | rfl | rfl | rfl | rfl | rfl | rfl | rfl | rfl | rfl | rfl | rfl | rfl | rfl | rfl | rfl
    · exact hr
    · exact hr
    · obtain ⟨g1, rfl, h, h'⟩ := hr; exact ⟨g1, rfl, h, own_at h' (fun b hb => hk b (by injection hb with hb; subst hb; simp))⟩
    · exact hr
    · obtain ⟨g1, cp, rfl, h, h'⟩ := hr; exact ⟨g1, cp, rfl, h, own_at h' (fun b hb => hk b (by injection hb with hb; subst hb; simp))⟩
    · exact hr
    · exact hr
    · exact hr
    · exact hr
    · exact hr
    · exact hr
    · obtain ⟨g1, rfl, h, h'⟩ := hr; exact ⟨g1, rfl, h, (hk _ (by simp)).trans h'⟩
    · obtain ⟨g1, cp, rfl, h, h'⟩ := hr; exact ⟨g1, cp, rfl, h, own_at h' (fun b hb => hk b (by injection hb with hb; subst hb; simp))⟩
    · obtain ⟨g1, cp, rfl, h, h'⟩ := hr; exact ⟨g1, cp, rfl, h, own_at h' (fun b hb => hk b (by injection hb with hb; subst hb; simp))⟩
    · obtain ⟨gc, g1, cp, rfl, h, hgc, h'⟩ := hr; exact ⟨gc, g1, cp, rfl, h, (hk _ (by simp)).trans hgc, own_at h' (fun b hb => hk b (by injection hb with hb; subst hb; simp))⟩
    · exact hr
    · obtain ⟨gc, g1, cp, rfl, h, hgc, h'⟩ := hr; exact ⟨gc, g1, cp, rfl, h.of_block (hk _ (by simp)), (hk _ (by simp)).trans hgc, own_at h' (fun b hb => hk b (by injection hb with hb; subst hb; simp))⟩
    · obtain ⟨rfl, h⟩ := hr; exact ⟨rfl, h.of_block (hk _ (by simp))⟩
    · obtain ⟨rfl, h1, h2, h3, h4⟩ := hr; exact ⟨rfl, (World.cell?_of_block (hk _ (by simp))).trans h1, (World.cell?_of_block (hk _ (by simp))).trans h2, (World.cell?_of_block (hk _ (by simp))).trans h3, (World.cell?_of_block (hk _ (by simp))).trans h4⟩
    · obtain ⟨rfl, h1, h2, h3, h4, h5⟩ := hr; exact ⟨rfl, (World.cell?_of_block (hk _ (by simp))).trans h1, (World.cell?_of_block (hk _ (by simp))).trans h2, (World.cell?_of_block (hk _ (by simp))).trans h3, (World.cell?_of_block (hk _ (by simp))).trans h4, (World.cell?_of_block (hk _ (by simp))).trans h5⟩
    · obtain ⟨rfl, h⟩ := hr; exact ⟨rfl, fun b hb => (hk b hb).trans (h b hb)⟩
  · intro j y hj hj2
    have h : j = 17 ∨ j = 18 ∨ j = 19 ∨ j = 20 := by omega
    rcases h with rfl | rfl | rfl | rfl
    · exact ⟨trivial, ⟨rfl, hrow⟩, fun b hb => by simp at hb; subst hb; exact hnb⟩
    · exact ⟨trivial, ⟨rfl, hbc⟩, fun b hb => by simp at hb; subst hb; omega⟩
    · exact ⟨trivial, ⟨rfl, hbx⟩, fun b hb => by simp at hb; subst hb; omega⟩
    · exact ⟨trivial, ⟨rfl, fun _ _ => rfl⟩, fun b hb => by simp at hb; have := hbb b hb; omega⟩
  · intro i j b hi hi2 hj hj2 hne2 hb hb'
    have h : i = 17 ∨ i = 18 ∨ i = 19 ∨ i = 20 := by omega
    have h' : j = 17 ∨ j = 18 ∨ j = 19 ∨ j = 20 := by omega
    rcases h with rfl | rfl | rfl | rfl <;> rcases h' with rfl | rfl | rfl | rfl <;> simp at hb hb' <;> (first | omega | (have := hbb b hb; omega) | (have := hbb b hb'; omega))
  · intro i o a w v g K hi ho hs hd hr hdj hbw hWw hK
    have hz : base ≤ w.heap.size := by omega
    have hsz' : ∀ (b i : Nat) (u : Value), (w.setCell ⟨b, i, none⟩ u).heap.size = w.heap.size := fun b i u => by simp [World.setCell]
    rcases lt17 hi with rfl | rfl | rfl | rfl | rfl | rfl | rfl | rfl | rfl | rfl | rfl | rfl | rfl | rfl | rfl | rfl | rfl
    · obtain ⟨ty, pos, af, e⟩ := o0; rw [ho] at e; obtain rfl := Option.some.inj e
      exact st_fieldC0 ((hs 5 (by decide)).trans h5) (hK _ [] _ rfl rfl hbw (Nat.le_refl _) (fun b hb => by simp at hb) (fun b hb _ => rfl))
    · obtain ⟨ty, pos, af, e⟩ := o1; rw [ho] at e; obtain rfl := Option.some.inj e
      obtain ⟨d0, s0⟩ := hd 0 (by simp [depsFA])
      have d0 : a.eval (.tmp 94) = v 0 := d0 (by decide)
      obtain ⟨⟨_, hbx1⟩, _⟩ := hr 18 (.inr (by simp [readsFA]))
      exact st_load25 (d0.trans s0) ⟨hbx1.1, hbx1.2.1, hbx1.2.2.1⟩ (hK _ [] _ rfl rfl hbw (Nat.le_refl _) (fun b hb => by simp at hb) (fun b hb _ => rfl))
    · obtain ⟨ty, pos, af, e⟩ := o2; rw [ho] at e; obtain rfl := Option.some.inj e
      exact st_none29 (hK _ [w.heap.size] _ trivial ⟨_, rfl, rfl, own_empty (new_at rfl) hz⟩ (hbw.alloc hz _) (by simp) (fun b hb => by simp at hb; subst hb; exact ⟨.inr (Nat.le_refl _), by simp⟩) (fun b hb _ => Below.heap_alloc _ _ _ hb))
    · obtain ⟨ty, pos, af, e⟩ := o3; rw [ho] at e; obtain rfl := Option.some.inj e
      exact st_move (v := .slice lA ln lc) ((hs 10 (by decide)).trans h10) (hK _ [] _ rfl rfl hbw (Nat.le_refl _) (fun b hb => by simp at hb) (fun b hb _ => rfl))
    · obtain ⟨ty, pos, af, e⟩ := o4; rw [ho] at e; obtain rfl := Option.some.inj e
      obtain ⟨d2, s2⟩ := hd 2 (by simp [depsFA])
      have d2 : a.eval (.tmp 96) = v 2 := d2 (by decide)
      obtain ⟨d3, s3⟩ := hd 3 (by simp [depsFA])
      have d3 : a.eval (.tmp 97) = v 3 := d3 (by decide)
      obtain ⟨⟨g1, eg, e1, ow⟩, q2⟩ := hr 2 (.inl (by simp [eatsFA]))
      obtain ⟨⟨er, hkb⟩, _⟩ := hr 20 (.inr (by simp [readsFA]))
      obtain ⟨q3, q4⟩ := q2 g1 (by rw [eg]; simp)
      refine wp_append_row (.tmp 96) (.tmp 97) 29 rfl base 50 i0 _ 5 56 Try.underlying29 hi0 hi1 hi2 hi3 rfl (by omega) g1 0 0 [] (d2.trans e1) ow lA ln lc xs (d3.trans s3) hlen hnil (fun ad h j u hu => (World.cell?_of_block (by rw [add_block]; exact hkb _ (hcl ad h).1)).trans ((hcl ad h).2 j u hu)) h1 (by unfold maxLen; omega) (by omega) hz (fun g' cap' w' ow' hg hor hlt => ?_)
      rw [Nat.zero_add, List.nil_append] at ow'
      rw [Nat.zero_add]
      refine hK _ [g'] w' trivial ⟨g', cap', rfl, rfl, ow'⟩ (hbw.grown hg hz (fun k hk => by injection hk with hk; omega)) hg.size (fun b hb => ?_) (fun b hb hne => hg.block b hb (fun e => by injection e with e; exact hne 2 (by simp [eatsFA]) (by rw [eg, e]; simp)))
      simp at hb; subst hb
      refine ⟨?_, hlt⟩
      rcases hor with h | h
      · exact .inl ⟨2, by simp [eatsFA], by rw [eg, h]; simp⟩
      · exact .inr (by omega)
    · obtain ⟨ty, pos, af, e⟩ := o5; rw [ho] at e; obtain rfl := Option.some.inj e
      exact st_move (v := .int .i64 kv) ((hs 3 (by decide)).trans h3) (hK _ [] _ rfl rfl hbw (Nat.le_refl _) (fun b hb => by simp at hb) (fun b hb _ => rfl))
    · obtain ⟨ty, pos, af, e⟩ := o6; rw [ho] at e; obtain rfl := Option.some.inj e
      exact st_fieldV4 ((hs 9 (by decide)).trans h9) (hK _ [] _ rfl rfl hbw (Nat.le_refl _) (fun b hb => by simp at hb) (fun b hb _ => rfl))
    · obtain ⟨ty, pos, af, e⟩ := o7; rw [ho] at e; obtain rfl := Option.some.inj e
      obtain ⟨d6, s6⟩ := hd 6 (by simp [depsFA])
      have d6 : a.eval (.tmp 100) = v 6 := d6 (by decide)
      obtain ⟨⟨_, hbx1⟩, _⟩ := hr 19 (.inr (by simp [readsFA]))
      have c4 := hbx1.2.2.2.2
      rw [hhi] at c4
      exact st_load3 (d6.trans s6) c4 (hK _ [] _ rfl rfl hbw (Nat.le_refl _) (fun b hb => by simp at hb) (fun b hb _ => rfl))
    · obtain ⟨ty, pos, af, e⟩ := o8; rw [ho] at e; obtain rfl := Option.some.inj e
      obtain ⟨d7, s7⟩ := hd 7 (by simp [depsFA])
      have d7 : a.eval (.tmp 101) = v 7 := d7 (by decide)
      exact st_add1 (d7.trans s7) hhi0 (hK _ [] _ rfl rfl hbw (Nat.le_refl _) (fun b hb => by simp at hb) (fun b hb _ => rfl))
    · obtain ⟨ty, pos, af, e⟩ := o9; rw [ho] at e; obtain rfl := Option.some.inj e
      obtain ⟨d8, s8⟩ := hd 8 (by simp [depsFA])
      have d8 : a.eval (.tmp 102) = v 8 := d8 (by decide)
      refine st_num (d8.trans s8) (fun w' hb' => hK _ [] w' rfl rfl (hbw.trans (hb'.mono hz)) hb'.size (fun b hb => by simp at hb) (fun b hb _ => hb'.block b hb))
    · obtain ⟨ty, pos, af, e⟩ := o10; rw [ho] at e; obtain rfl := Option.some.inj e
      obtain ⟨d5, s5⟩ := hd 5 (by simp [depsFA])
      have d5 : a.eval (.tmp 99) = v 5 := d5 (by decide)
      obtain ⟨d9, s9⟩ := hd 9 (by simp [depsFA])
      have d9 : a.eval (.tmp 103) = v 9 := d9 (by decide)
      exact st_set (d5.trans s5) (d9.trans s9) (hK _ [] _ rfl rfl hbw (Nat.le_refl _) (fun b hb => by simp at hb) (fun b hb _ => rfl))
    · obtain ⟨ty, pos, af, e⟩ := o11; rw [ho] at e; obtain rfl := Option.some.inj e
      obtain ⟨d10, s10⟩ := hd 10 (by simp [depsFA])
      have d10 : a.eval (.tmp 104) = v 10 := d10 (by decide)
      exact st_one29 (d10.trans s10) (hK _ [w.heap.size] _ trivial ⟨_, rfl, rfl, new_at rfl⟩ (hbw.alloc hz _) (by simp) (fun b hb => by simp at hb; subst hb; exact ⟨.inr (Nat.le_refl _), by simp⟩) (fun b hb _ => Below.heap_alloc _ _ _ hb))
    · obtain ⟨ty, pos, af, e⟩ := o12; rw [ho] at e; obtain rfl := Option.some.inj e
      obtain ⟨d4, s4⟩ := hd 4 (by simp [depsFA])
      have d4 : a.eval (.tmp 98) = v 4 := d4 (by decide)
      obtain ⟨d11, s11⟩ := hd 11 (by simp [depsFA])
      have d11 : a.eval (.tmp 105) = v 11 := d11 (by decide)
      obtain ⟨⟨g1, cp1, eg, e1, ow⟩, q2⟩ := hr 4 (.inl (by simp [eatsFA]))
      obtain ⟨⟨g11, eg11, e11, hg11⟩, q11⟩ := hr 11 (.inr (by simp [readsFA]))
      obtain ⟨q3, q4⟩ := q2 g1 (by rw [eg]; simp)
      refine wp_append_row (.tmp 98) (.tmp 105) 29 rfl base 50 i0 _ 5 56 Try.underlying29 hi0 hi1 hi2 hi3 rfl (by omega) g1 ln cp1 xs (d4.trans e1) ow (some ⟨g11, 0, none⟩) 1 1 [.int .i64 kv, .bool false, .int .i64 1, .int .i64 (hv + 1), .slice none 0 0] (d11.trans e11) rfl (fun h => by cases h) (fun ad h j u hu => by
        injection h with h
        subst h
        exact World.news_of_block hg11 j u hu) (by simp [Value.oneCell']) (by unfold maxLen; omega) (by omega) hz (fun g' cap' w' ow' hg hor hlt => ?_)
      refine hK _ [g'] w' trivial ⟨g', cap', rfl, rfl, ow'⟩ (hbw.grown hg hz (fun k hk => by injection hk with hk; omega)) hg.size (fun b hb => ?_) (fun b hb hne => hg.block b hb (fun e => by injection e with e; exact hne 4 (by simp [eatsFA]) (by rw [eg, e]; simp)))
      simp at hb; subst hb
      refine ⟨?_, hlt⟩
      rcases hor with h | h
      · exact .inl ⟨4, by simp [eatsFA], by rw [eg, h]; simp⟩
      · exact .inr (by omega)
    · obtain ⟨ty, pos, af, e⟩ := o13; rw [ho] at e; obtain rfl := Option.some.inj e
      obtain ⟨d1, s1⟩ := hd 1 (by simp [depsFA])
      have d1 : a.eval (.tmp 95) = v 1 := d1 (by decide)
      obtain ⟨d12, s12⟩ := hd 12 (by simp [depsFA])
      have d12 : a.eval (.tmp 106) = v 12 := d12 (by decide)
      obtain ⟨⟨g1, cp, eg, e1, ow⟩, q2⟩ := hr 12 (.inl (by simp [eatsFA]))
      exact st_cmd (d1.trans s1) (d12.trans e1) (hK _ [g1] _ trivial ⟨g1, cp, rfl, rfl, ow⟩ hbw (Nat.le_refl _) (fun b hb => ⟨.inl ⟨12, by simp [eatsFA], by rw [eg]; exact hb⟩, (q2 b (by rw [eg]; exact hb)).2⟩) (fun b hb _ => rfl))
    · obtain ⟨ty, pos, af, e⟩ := o14; rw [ho] at e; obtain rfl := Option.some.inj e
      obtain ⟨d13, s13⟩ := hd 13 (by simp [depsFA])
      have d13 : a.eval (.tmp 107) = v 13 := d13 (by decide)
      obtain ⟨⟨g1, cp, eg, e1, ow⟩, q2⟩ := hr 13 (.inl (by simp [eatsFA]))
      refine st_one26 (d13.trans e1) (hK _ [w.heap.size, g1] _ trivial ⟨_, g1, cp, rfl, rfl, new_at rfl, ow.alloc _⟩ (hbw.alloc hz _) (by simp) (fun b hb => ?_) (fun b hb _ => Below.heap_alloc _ _ _ hb))
      rcases List.mem_cons.1 hb with rfl | hb
      · exact ⟨.inr (Nat.le_refl _), by simp⟩
      · exact ⟨.inl ⟨13, by simp [eatsFA], by rw [eg]; exact hb⟩, by have := (q2 b (by rw [eg]; exact hb)).2; simp; omega⟩
    · obtain ⟨ty, pos, af, e⟩ := o15; rw [ho] at e; obtain rfl := Option.some.inj e
      exact st_field3 ((hs 4 (by decide)).trans h4) (hK _ [] _ rfl rfl hbw (Nat.le_refl _) (fun b hb => by simp at hb) (fun b hb _ => rfl))
    · obtain ⟨ty, pos, af, e⟩ := o16; rw [ho] at e; obtain rfl := Option.some.inj e
      obtain ⟨d15, s15⟩ := hd 15 (by simp [depsFA])
      have d15 : a.eval (.tmp 109) = v 15 := d15 (by decide)
      obtain ⟨d14, s14⟩ := hd 14 (by simp [depsFA])
      have d14 : a.eval (.tmp 108) = v 14 := d14 (by decide)
      obtain ⟨⟨gc, g1, cp, eg, e1, hgc, ow⟩, q2⟩ := hr 14 (.inl (by simp [eatsFA]))
      obtain ⟨⟨er, hrw⟩, q5⟩ := hr 17 (.inl (by simp [eatsFA]))
      have hne : ∀ b ∈ [gc, g1], b ≠ nb := fun b hb h => by
        have := hdj 14 17 b (.inl (by simp [eatsFA])) (.inl (by simp [eatsFA])) (by omega) (by rw [eg]; exact hb)
        rw [er, h] at this
        exact this (by simp)
      obtain ⟨q6, q7⟩ := q5 nb (by rw [er]; simp)
      refine st_store26 (b := nb) (i := 7) (f := mV x) (d15.trans s15) (d14.trans e1) hrw (by omega) (hK undef [nb, gc, g1] _ trivial ⟨gc, g1, cp, rfl, hrw.set 7 _, (Below.heap_setCell _ _ _ _ (by exact hne gc (by simp))).trans hgc, own_at ow (fun b hb => Below.heap_setCell _ _ _ _ (by injection hb with hb; subst hb; exact hne _ (by simp)))⟩ (hbw.setCell (by exact q6) _) (Nat.le_of_eq (hsz' _ _ _).symm) (fun b hb => ?_) (fun b hb hne => Below.heap_setCell _ _ _ _ (by show b ≠ nb; exact fun h => hne 17 (by simp [eatsFA]) (by rw [er, h]; simp))))
      rw [hsz']
      rcases List.mem_cons.1 hb with rfl | hb
      · exact ⟨.inl ⟨17, by simp [eatsFA], by rw [er]; simp⟩, q7⟩
      · exact ⟨.inl ⟨14, by simp [eatsFA], by rw [eg]; exact hb⟩, (q2 b (by rw [eg]; exact hb)).2⟩
  · intro u g w hS hR hD hbw hWw
    have hall : ∀ j ∈ [16, 18, 19, 20], ∀ e, e < 17 → j ∉ eatsFA e := by decide +kernel
    have hnf : ∀ j, j ∈ [16, 18, 19, 20] → ∀ e, e < 17 → j ∉ eatsFA e := fun j hj e he => hall j hj e he
    obtain ⟨⟨gc, g1, cp, e1, hrow, hgc, ow⟩, _⟩ := hR 16 (by omega) (hnf _ (by simp))
    exact hend u gc g1 cp w hrow hgc ow (hR 18 (by omega) (hnf _ (by simp))).1.2 (hR 19 (by omega) (hnf _ (by simp))).1.2 (hR 20 (by omega) (hnf _ (by simp))).1.2 hbw
end Go.Proofs.Ytohegmnfmomjaaa
