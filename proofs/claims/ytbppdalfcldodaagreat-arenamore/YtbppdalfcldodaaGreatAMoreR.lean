/- 'more.Env = append(append([]Command{}, m.Env...), c)' in a region that draws its order. -/
import Derived.Test.YtbppdalfcldodaaGreatGLaw
import Derived.Test.YtbppdalfcldodaaGreatCDevG
import Derived.Test.YtbppdalfcldodaaGreatGSm
import Derived.Test.YtbppdalfcldodaaGreatMRes
set_option maxRecDepth 100000
namespace Go.Proofs.YtbppdalfcldodaaGreat
open Go.RowKit Ex
set_option linter.unusedSimpArgs false
set_option linter.unusedVariables false

theorem infoC6 : (Tryz.prog.info? 71).map (fun i => (i.zero, i.size, i.bytes)) = some (some (.agg #[.int .i64 0, .int .i64 0, .slice none 0 0, .slice none 0 0]), 4, 64) := by kernel_rfl
theorem lt9A {i : Nat} (h : i < 9) : i = 0 ∨ i = 1 ∨ i = 2 ∨ i = 3 ∨ i = 4 ∨ i = 5 ∨ i = 6 ∨ i = 7 ∨ i = 8 := by omega
theorem lt12A {i : Nat} (h : i < 12) : i = 0 ∨ i = 1 ∨ i = 2 ∨ i = 3 ∨ i = 4 ∨ i = 5 ∨ i = 6 ∨ i = 7 ∨ i = 8 ∨ i = 9 ∨ i = 10 ∨ i = 11 := by omega
theorem add_blockA (ad : Addr) (j : Nat) : (ad.add j).block = ad.block := by unfold Addr.add; split <;> rfl
theorem own_atA {w w' : World} {base e size n : Nat} {v : Value} {xs : List Value} (h : w.ownsRow base e size v n xs) (hk : ∀ b, v.ownBlock = some b → w'.heap[b]? = w.heap[b]?) : w'.ownsRow base e size v n xs := by
  refine ⟨h.1, ?_⟩
  rcases h.2 with h4 | ⟨g, cap, cur, e, h4, h5, h6⟩
  · exact .inl h4
  · exact .inr ⟨g, cap, cur, e, h4, (hk g (by rw [e]; rfl)).trans h5, h6⟩
theorem mcell_env {w : World} {g : Nat} {x : M8} {A : Option Addr} {n c : Nat} (h : w.rowIs g 28 12 (mV x)) (hx : x.env = ⟨A, n, c⟩) : w.cell? ⟨g, 7, none⟩ = some (.slice A n c) := by
  have := (row12 (mV_box h)).2.2.2.2.2.2.2.1
  rw [hx] at this; exact this
theorem mcell_sys {w : World} {g : Nat} {x : M8} {A : Option Addr} {n c : Nat} (h : w.rowIs g 28 12 (mV x)) (hx : x.sys = ⟨A, n, c⟩) : w.cell? ⟨g, 8, none⟩ = some (.slice A n c) := by
  have := (row12 (mV_box h)).2.2.2.2.2.2.2.2.1
  rw [hx] at this; exact this
section
variable {a : Act} {w : World} {K : Act → World → Prop} {Q : Exit → Act → World → Prop} {d ty : Nat} {pos : String} {af : Array Edge} {op nn : Int} {A : Option Addr} {len cap : Nat} {tA : Option Addr} {tn tc : Nat}
theorem st_field3 {t b : Nat} (he : a.eval (.tmp t) = .pointer (some ⟨b, 0, none⟩)) (hK : K (a.put (some d) (.pointer (some ⟨b, 7, none⟩))) w) : Oper.wp Tryz.prog ⟨some d, .fieldAddr 28 (.tmp t) 3, ty, pos, af, none⟩ a w K Q := by
  have he' : a.tmps[t]?.getD undef = .pointer (some ⟨b, 0, none⟩) := by simpa [Act.eval] using he
  refine wp_val ?_ hK
  simp only [execOp]
  go_simp
theorem st_field4 {t b : Nat} (he : a.eval (.tmp t) = .pointer (some ⟨b, 0, none⟩)) (hK : K (a.put (some d) (.pointer (some ⟨b, 8, none⟩))) w) : Oper.wp Tryz.prog ⟨some d, .fieldAddr 28 (.tmp t) 4, ty, pos, af, none⟩ a w K Q := by
  have he' : a.tmps[t]?.getD undef = .pointer (some ⟨b, 0, none⟩) := by simpa [Act.eval] using he
  refine wp_val ?_ hK
  simp only [execOp]
  go_simp
theorem st_store26 {t s b i : Nat} {A : Option Addr} {n c : Nat} {f : Nat → Value} (he : a.eval (.tmp t) = .pointer (some ⟨b, i, none⟩)) (hs : a.eval (.tmp s) = .slice A n c) (hr : w.rowIs b 28 12 f) (hi : i < 12) (hK : K a (w.setCell ⟨b, i, none⟩ (.slice A n c))) : Oper.wp Tryz.prog ⟨none, .store 26 (.tmp t) (.tmp s), ty, pos, af, none⟩ a w K Q := by
  have he' : a.tmps[t]?.getD undef = .pointer (some ⟨b, i, none⟩) := by simpa [Act.eval] using he
  have hs' : a.tmps[s]?.getD undef = .slice A n c := by simpa [Act.eval] using hs
  have c0 := hr.cell (i := i) hi
  have z0 := hr.frozen i
  unfold Oper.wp
  go_simp
  exact hK
theorem st_none26A (hK : K (a.put (some d) (.slice (some ⟨w.heap.size, 0, none⟩) 0 0)) (w.alloc (.cells #[] 71))) : Oper.wp Tryz.prog ⟨some d, .buildSlice 26 0 #[], ty, pos, af, none⟩ a w K Q := by
  refine wp_val ?_ hK
  simp only [execOp]
  go_simp
theorem st_load26A {t b i : Nat} (he : a.eval (.tmp t) = .pointer (some ⟨b, i, none⟩)) (hc : w.cell? ⟨b, i, none⟩ = some (.slice A len cap)) (hK : K (a.put (some d) (.slice A len cap)) w) : Oper.wp Tryz.prog ⟨some d, .load 26 (.tmp t), ty, pos, af, none⟩ a w K Q := by
  have he' : a.tmps[t]?.getD undef = .pointer (some ⟨b, i, none⟩) := by simpa [Act.eval] using he
  refine wp_val ?_ hK
  simp only [execOp]
  go_simp
theorem st_loadC6A {t b : Nat} (he : a.eval (.tmp t) = .pointer (some ⟨b, 0, none⟩)) (hc : BoxC w b op nn A len cap tA tn tc) (hK : K (a.put (some d) (.agg #[.int .i64 op, .int .i64 nn, .slice A len cap, .slice tA tn tc])) w) : Oper.wp Tryz.prog ⟨some d, .load 71 (.tmp t), ty, pos, af, none⟩ a w K Q := by
  have he' : a.tmps[t]?.getD undef = .pointer (some ⟨b, 0, none⟩) := by simpa [Act.eval] using he
  obtain ⟨c0, c1, c2, c3⟩ := hc
  refine wp_val ?_ hK
  simp only [execOp]
  go_simp
theorem st_one26A {t : Nat} (he : a.eval (.tmp t) = .agg #[.int .i64 op, .int .i64 nn, .slice A len cap, .slice tA tn tc]) (hK : K (a.put (some d) (.slice (some ⟨w.heap.size, 0, none⟩) 1 1)) (w.alloc (.cells #[.int .i64 op, .int .i64 nn, .slice A len cap, .slice tA tn tc] 71))) : Oper.wp Tryz.prog ⟨some d, .buildSlice 26 1 #[(0, .tmp t)], ty, pos, af, none⟩ a w K Q := by
  have he' : a.tmps[t]?.getD undef = .agg #[.int .i64 op, .int .i64 nn, .slice A len cap, .slice tA tn tc] := by simpa [Act.eval] using he
  refine wp_val ?_ hK
  simp only [execOp]
  go_simp
end
def depsA : Nat → List Nat
  | 2 => [1]
  | 3 => [0, 2]
  | 5 => [4]
  | 6 => [3, 5]
  | 8 => [7, 6]
  | _ => []
def eatsA : Nat → List Nat
  | 3 => [0]
  | 6 => [3]
  | 8 => [6, 11]
  | _ => []
def readsA : Nat → List Nat
  | 2 => [9]
  | 4 => [10]
  | 6 => [5]
  | _ => []
def dstAE : Nat → Nat
  | 0 => 53
  | 1 => 54
  | 2 => 55
  | 3 => 56
  | 4 => 57
  | 5 => 58
  | 6 => 59
  | 7 => 60
  | 8 => 1008
  | k + 9 => 1009 + k
def SAE (nb p0 : Nat) (op nn : Int) (A : Option Addr) (len cap : Nat) (tA : Option Addr) (tn tc : Nat) (lA : Option Addr) (ln lc : Nat) : Nat → Value → Prop
  | 1, v => v = .pointer (some ⟨nb, 7, none⟩)
  | 2, v => v = .slice lA ln lc
  | 4, v => v = .agg #[.int .i64 op, .int .i64 nn, .slice A len cap, .slice tA tn tc]
  | 7, v => v = .pointer (some ⟨p0, 7, none⟩)
  | _, _ => True
def RAE (base nb cb p0 : Nat) (x : M8) (op nn : Int) (A : Option Addr) (len cap : Nat) (tA : Option Addr) (tn tc : Nat) (ln : Nat) (xs : List Value) : Nat → Value → World → List Nat → Prop
  | 0, v, w, gi => ∃ g, gi = [g] ∧ v = .slice (some ⟨g, 0, none⟩) 0 0 ∧ w.ownsRow base 71 4 (.slice (some ⟨g, 0, none⟩) 0 0) 0 []
  | 3, v, w, gi => ∃ g cp, gi = [g] ∧ v = .slice (some ⟨g, 0, none⟩) ln cp ∧ w.ownsRow base 71 4 (.slice (some ⟨g, 0, none⟩) ln cp) ln xs
  | 5, v, w, gi => ∃ g, gi = [g] ∧ v = .slice (some ⟨g, 0, none⟩) 1 1 ∧ w.heap[g]? = some (.cells #[.int .i64 op, .int .i64 nn, .slice A len cap, .slice tA tn tc] 71 (0, 0))
  | 6, v, w, gi => ∃ g cp, gi = [g] ∧ v = .slice (some ⟨g, 0, none⟩) (ln + 1) cp ∧ w.ownsRow base 71 4 (.slice (some ⟨g, 0, none⟩) (ln + 1) cp) (ln + 1) (xs ++ [.int .i64 op, .int .i64 nn, .slice A len cap, .slice tA tn tc])
  | 8, _, w, gi => ∃ g cp, gi = [p0, g] ∧ w.rowIs p0 28 12 (fun i => if i = 7 then .slice (some ⟨g, 0, none⟩) (ln + 1) cp else mV x i) ∧ w.ownsRow base 71 4 (.slice (some ⟨g, 0, none⟩) (ln + 1) cp) (ln + 1) (xs ++ [.int .i64 op, .int .i64 nn, .slice A len cap, .slice tA tn tc])
  | 9, _, w, gi => gi = [nb] ∧ w.rowIs nb 28 12 (mV x)
  | 10, _, w, gi => gi = [cb] ∧ BoxC w cb op nn A len cap tA tn tc
  | 11, _, w, gi => gi = [p0] ∧ w.rowIs p0 28 12 (mV x)
  | _, _, _, gi => gi = []
set_option maxHeartbeats 4000000 in
theorem amore_regionE {id nb cb p0 base ln lc : Nat} {ops : Array Oper} {Q : Exit → Act → World → Prop} {a0 : Act} {W : World} {x : M8} {op nn : Int} {A : Option Addr} {len cap : Nat} {tA : Option Addr} {tn tc : Nat} {lA : Option Addr} {xs : List Value}
    (hm : Tryz.prog.follows .mixedOrders = true) (hsz : ops.size = 9) (hac : ownAc ops = true) (hdep : ownDeps ops depsA = true)
    (o0 : ∃ ty pos af, ops[0]? = some ⟨some 53, .buildSlice 26 0 #[], ty, pos, af, none⟩)
    (o1 : ∃ ty pos af, ops[1]? = some ⟨some 54, .fieldAddr 28 (.tmp 3) 3, ty, pos, af, none⟩)
    (o2 : ∃ ty pos af, ops[2]? = some ⟨some 55, .load 26 (.tmp 54), ty, pos, af, none⟩)
    (o3 : ∃ ty pos af, ops[3]? = some ⟨some 56, .call { callee := .builtin .append, args := #[.tmp 53, .tmp 55], argTypes := #[26, 26] }, ty, pos, af, none⟩)
    (o4 : ∃ ty pos af, ops[4]? = some ⟨some 57, .load 71 (.tmp 4), ty, pos, af, none⟩)
    (o5 : ∃ ty pos af, ops[5]? = some ⟨some 58, .buildSlice 26 1 #[(0, .tmp 57)], ty, pos, af, none⟩)
    (o6 : ∃ ty pos af, ops[6]? = some ⟨some 59, .call { callee := .builtin .append, args := #[.tmp 56, .tmp 58], argTypes := #[26, 26] }, ty, pos, af, none⟩)
    (o7 : ∃ ty pos af, ops[7]? = some ⟨some 60, .fieldAddr 28 (.tmp 7) 3, ty, pos, af, none⟩)
    (o8 : ∃ ty pos af, ops[8]? = some ⟨none, .store 26 (.tmp 60) (.tmp 59), ty, pos, af, none⟩)
    (hts : 61 ≤ a0.tmps.size) (h3 : a0.eval (.tmp 3) = .pointer (some ⟨nb, 0, none⟩)) (h4 : a0.eval (.tmp 4) = .pointer (some ⟨cb, 0, none⟩)) (h7 : a0.eval (.tmp 7) = .pointer (some ⟨p0, 0, none⟩))
    (hx : x.env = ⟨lA, ln, lc⟩) (hbc : BoxC W cb op nn A len cap tA tn tc) (hrow : W.rowIs nb 28 12 (mV x)) (hr0 : W.rowIs p0 28 12 (mV x)) (hnb : base ≤ nb ∧ nb < W.heap.size) (hcb : nb < cb ∧ cb < W.heap.size) (hp0 : cb < p0 ∧ p0 < W.heap.size) (hbase : base ≤ W.heap.size)
    (hlen : xs.length = ln * 4) (hnil : lA = none → ln = 0 ∧ lc = 0) (hcl : ∀ ad, lA = some ad → ∀ (j : Nat) u, xs[j]? = some u → ad.block < base ∧ W.cell? (ad.add j) = some u) (h1 : ∀ u ∈ xs, u.oneCell' = true) (hl : ln ≤ 100)
    (hend : ∀ (u : Nat → Value) (ga cpa : Nat) (w : World), w.rowIs p0 28 12 (fun i => if i = 7 then .slice (some ⟨ga, 0, none⟩) (ln + 1) cpa else mV x i) → w.ownsRow base 71 4 (.slice (some ⟨ga, 0, none⟩) (ln + 1) cpa) (ln + 1) (xs ++ [.int .i64 op, .int .i64 nn, .slice A len cap, .slice tA tn tc]) → w.rowIs nb 28 12 (mV x) → BoxC w cb op nn A len cap tA tn tc → Below base W w → W.heap.size ≤ w.heap.size → Q .normal (sel [53, 54, 55, 56, 57, 58, 59, 60] a0 u) w) :
    (Code.region id ops true).wp Tryz.prog Q a0 W := by
  obtain ⟨i0, hi0, hi1, hi2, hi3⟩ := info_parts infoC6
  refine region_res (n := 9) (N := 12) (base := base) [53, 54, 55, 56, 57, 58, 59, 60] dstAE depsA eatsA readsA (fun j => if j = 9 then [nb] else if j = 10 then [cb] else [p0]) (SAE nb p0 op nn A len cap tA tn tc lA ln lc) (RAE base nb cb p0 x op nn A len cap tA tn tc ln xs) hm hsz (by omega) hac hdep hbase ?_ ?_ ?_ ?_ ?_ ?_ ?_ ?_ ?_ ?_ ?_
  · intro i j hi h
    have hall : ∀ i, i < 9 → ∀ j ∈ eatsA i ++ readsA i, (j ∈ depsA i ∨ 9 ≤ j) ∧ j < 12 := by decide +kernel
    exact hall i hi j (List.mem_append.2 h)
  · intro i i' j hi hi' h h'
    have hall : ∀ i, i < 9 → ∀ i', i' < 9 → ∀ j ∈ eatsA i, j ∈ eatsA i' → i = i' := by decide +kernel
    exact hall i hi i' hi' j h h'
  · intro i e j hi he h h'
    have hall : ∀ i, i < 9 → ∀ e, e < 9 → ∀ j ∈ readsA i, j ∈ eatsA e → i ∈ depsA e := by decide +kernel
    exact hall i hi e he j h h'
  · intro i j hi h
    have hall : ∀ i, i < 9 → ∀ j ∈ depsA i, j < i := by decide +kernel
    exact hall i hi j h
  · intro i o ho
    have hi : i < 9 := by rw [← hsz]; exact (Array.getElem?_eq_some_iff.1 ho).1
    rcases lt9A hi with rfl | rfl | rfl | rfl | rfl | rfl | rfl | rfl | rfl
    · obtain ⟨ty, pos, af, e⟩ := o0; rw [ho] at e; obtain rfl := Option.some.inj e; exact .inl ⟨rfl, by decide, by show 53 < _; omega⟩
    · obtain ⟨ty, pos, af, e⟩ := o1; rw [ho] at e; obtain rfl := Option.some.inj e; exact .inl ⟨rfl, by decide, by show 54 < _; omega⟩
    · obtain ⟨ty, pos, af, e⟩ := o2; rw [ho] at e; obtain rfl := Option.some.inj e; exact .inl ⟨rfl, by decide, by show 55 < _; omega⟩
    · obtain ⟨ty, pos, af, e⟩ := o3; rw [ho] at e; obtain rfl := Option.some.inj e; exact .inl ⟨rfl, by decide, by show 56 < _; omega⟩
    · obtain ⟨ty, pos, af, e⟩ := o4; rw [ho] at e; obtain rfl := Option.some.inj e; exact .inl ⟨rfl, by decide, by show 57 < _; omega⟩
    · obtain ⟨ty, pos, af, e⟩ := o5; rw [ho] at e; obtain rfl := Option.some.inj e; exact .inl ⟨rfl, by decide, by show 58 < _; omega⟩
    · obtain ⟨ty, pos, af, e⟩ := o6; rw [ho] at e; obtain rfl := Option.some.inj e; exact .inl ⟨rfl, by decide, by show 59 < _; omega⟩
    · obtain ⟨ty, pos, af, e⟩ := o7; rw [ho] at e; obtain rfl := Option.some.inj e; exact .inl ⟨rfl, by decide, by show 60 < _; omega⟩
    · obtain ⟨ty, pos, af, e⟩ := o8; rw [ho] at e; obtain rfl := Option.some.inj e; exact .inr ⟨rfl, by decide⟩
  · intro i j hi hj h
    have hall : ∀ i, i < 12 → ∀ j, j < 12 → dstAE i = dstAE j → i = j := by decide +kernel
    exact hall i hi j hj h
  · intro j y w w' g hj hr hbw hbw' hk
    rcases lt12A hj with rfl | rfl | rfl | rfl | rfl | rfl | rfl | rfl | rfl | rfl | rfl | rfl
    · obtain ⟨g1, rfl, h, h'⟩ := hr; exact ⟨g1, rfl, h, own_atA h' (fun b hb => hk b (by injection hb with hb; subst hb; simp))⟩
    · exact hr
    · exact hr
    · obtain ⟨g1, cp, rfl, h, h'⟩ := hr; exact ⟨g1, cp, rfl, h, own_atA h' (fun b hb => hk b (by injection hb with hb; subst hb; simp))⟩
    · exact hr
    · obtain ⟨g1, rfl, h, h'⟩ := hr; exact ⟨g1, rfl, h, (hk _ (by simp)).trans h'⟩
    · obtain ⟨g1, cp, rfl, h, h'⟩ := hr; exact ⟨g1, cp, rfl, h, own_atA h' (fun b hb => hk b (by injection hb with hb; subst hb; simp))⟩
    · exact hr
    · obtain ⟨g1, cp, rfl, h, h'⟩ := hr; exact ⟨g1, cp, rfl, h.of_block (hk _ (by simp)), own_atA h' (fun b hb => hk b (by injection hb with hb; subst hb; simp))⟩
    · obtain ⟨rfl, h⟩ := hr; exact ⟨rfl, h.of_block (hk _ (by simp))⟩
    · obtain ⟨rfl, h1, h2, h3, h4⟩ := hr; exact ⟨rfl, (World.cell?_of_block (hk _ (by simp))).trans h1, (World.cell?_of_block (hk _ (by simp))).trans h2, (World.cell?_of_block (hk _ (by simp))).trans h3, (World.cell?_of_block (hk _ (by simp))).trans h4⟩
    · obtain ⟨rfl, h⟩ := hr; exact ⟨rfl, h.of_block (hk _ (by simp))⟩
  · intro j y hj hj2
    have h : j = 9 ∨ j = 10 ∨ j = 11 := by omega
    rcases h with rfl | rfl | rfl
    · exact ⟨trivial, ⟨rfl, hrow⟩, fun b hb => by simp at hb; subst hb; exact hnb⟩
    · exact ⟨trivial, ⟨rfl, hbc⟩, fun b hb => by simp at hb; subst hb; omega⟩
    · exact ⟨trivial, ⟨rfl, hr0⟩, fun b hb => by simp at hb; subst hb; omega⟩
  · intro i j b hi hi2 hj hj2 hne2 hb hb'
    have h : i = 9 ∨ i = 10 ∨ i = 11 := by omega
    have h' : j = 9 ∨ j = 10 ∨ j = 11 := by omega
    rcases h with rfl | rfl | rfl <;> rcases h' with rfl | rfl | rfl <;> simp at hb hb' <;> omega
  · intro i o a w v g K hi ho hs hd hr hdj hbw hWw hK
    have hz : base ≤ w.heap.size := by omega
    have hsz' : ∀ (b i : Nat) (u : Value), (w.setCell ⟨b, i, none⟩ u).heap.size = w.heap.size := fun b i u => by simp [World.setCell]
    rcases lt9A hi with rfl | rfl | rfl | rfl | rfl | rfl | rfl | rfl | rfl
    · obtain ⟨ty, pos, af, e⟩ := o0; rw [ho] at e; obtain rfl := Option.some.inj e
      exact st_none26A (hK _ [w.heap.size] _ trivial ⟨_, rfl, rfl, own_empty (new_at rfl) hz⟩ (hbw.alloc hz _) (by simp) (fun b hb => by simp at hb; subst hb; exact ⟨.inr (Nat.le_refl _), by simp⟩) (fun b hb _ => Below.heap_alloc _ _ _ hb))
    · obtain ⟨ty, pos, af, e⟩ := o1; rw [ho] at e; obtain rfl := Option.some.inj e
      exact st_field3 ((hs 3 (by decide)).trans h3) (hK _ [] _ rfl rfl hbw (Nat.le_refl _) (fun b hb => by simp at hb) (fun b hb _ => rfl))
    · obtain ⟨ty, pos, af, e⟩ := o2; rw [ho] at e; obtain rfl := Option.some.inj e
      obtain ⟨d1, s1⟩ := hd 1 (by simp [depsA])
      have d1 : a.eval (.tmp 54) = v 1 := d1 (by decide)
      obtain ⟨⟨_, hrw⟩, _⟩ := hr 9 (.inr (by simp [readsA]))
      exact st_load26A (d1.trans s1) (mcell_env hrw hx) (hK _ [] _ rfl rfl hbw (Nat.le_refl _) (fun b hb => by simp at hb) (fun b hb _ => rfl))
    · obtain ⟨ty, pos, af, e⟩ := o3; rw [ho] at e; obtain rfl := Option.some.inj e
      obtain ⟨d0, s0⟩ := hd 0 (by simp [depsA])
      have d0 : a.eval (.tmp 53) = v 0 := d0 (by decide)
      obtain ⟨d2, s2⟩ := hd 2 (by simp [depsA])
      have d2 : a.eval (.tmp 55) = v 2 := d2 (by decide)
      obtain ⟨⟨g1, eg, e1, ow⟩, q2⟩ := hr 0 (.inl (by simp [eatsA]))
      obtain ⟨q3, q4⟩ := q2 g1 (by rw [eg]; simp)
      refine wp_append_row (.tmp 53) (.tmp 55) 26 rfl base 71 i0 _ 4 64 Tryz.underlying26 hi0 hi1 hi2 hi3 rfl (by omega) g1 0 0 [] (d0.trans e1) ow lA ln lc xs (d2.trans s2) hlen hnil (fun ad h j u hu => (World.cell?_of_block (by rw [add_blockA]; exact hbw.block _ (hcl ad h j u hu).1)).trans (hcl ad h j u hu).2) h1 (by unfold maxLen; omega) (by omega) hz (fun g' cap' w' ow' hg hor hlt => ?_)
      rw [Nat.zero_add, List.nil_append] at ow'
      rw [Nat.zero_add]
      refine hK _ [g'] w' trivial ⟨g', cap', rfl, rfl, ow'⟩ (hbw.grown hg hz (fun k hk => by injection hk with hk; omega)) hg.size (fun b hb => ?_) (fun b hb hne => hg.block b hb (fun e => by injection e with e; exact hne 0 (by simp [eatsA]) (by rw [eg, e]; simp)))
      simp at hb; subst hb
      refine ⟨?_, hlt⟩
      rcases hor with h | h
      · exact .inl ⟨0, by simp [eatsA], by rw [eg, h]; simp⟩
      · exact .inr (by omega)
    · obtain ⟨ty, pos, af, e⟩ := o4; rw [ho] at e; obtain rfl := Option.some.inj e
      obtain ⟨⟨_, hbx1⟩, _⟩ := hr 10 (.inr (by simp [readsA]))
      exact st_loadC6A ((hs 4 (by decide)).trans h4) hbx1 (hK _ [] _ rfl rfl hbw (Nat.le_refl _) (fun b hb => by simp at hb) (fun b hb _ => rfl))
    · obtain ⟨ty, pos, af, e⟩ := o5; rw [ho] at e; obtain rfl := Option.some.inj e
      obtain ⟨d4, s4⟩ := hd 4 (by simp [depsA])
      have d4 : a.eval (.tmp 57) = v 4 := d4 (by decide)
      exact st_one26A (d4.trans s4) (hK _ [w.heap.size] _ trivial ⟨_, rfl, rfl, new_at rfl⟩ (hbw.alloc hz _) (by simp) (fun b hb => by simp at hb; subst hb; exact ⟨.inr (Nat.le_refl _), by simp⟩) (fun b hb _ => Below.heap_alloc _ _ _ hb))
    · obtain ⟨ty, pos, af, e⟩ := o6; rw [ho] at e; obtain rfl := Option.some.inj e
      obtain ⟨d3, s3⟩ := hd 3 (by simp [depsA])
      have d3 : a.eval (.tmp 56) = v 3 := d3 (by decide)
      obtain ⟨d5, s5⟩ := hd 5 (by simp [depsA])
      have d5 : a.eval (.tmp 58) = v 5 := d5 (by decide)
      obtain ⟨⟨g1, cp1, eg, e1, ow⟩, q2⟩ := hr 3 (.inl (by simp [eatsA]))
      obtain ⟨⟨g5, eg5, e5, hg5⟩, q5⟩ := hr 5 (.inr (by simp [readsA]))
      obtain ⟨q3, q4⟩ := q2 g1 (by rw [eg]; simp)
      refine wp_append_row (.tmp 56) (.tmp 58) 26 rfl base 71 i0 _ 4 64 Tryz.underlying26 hi0 hi1 hi2 hi3 rfl (by omega) g1 ln cp1 xs (d3.trans e1) ow (some ⟨g5, 0, none⟩) 1 1 [.int .i64 op, .int .i64 nn, .slice A len cap, .slice tA tn tc] (d5.trans e5) rfl (fun h => by cases h) (fun ad h j u hu => by
        injection h with h
        subst h
        exact World.news_of_block hg5 j u hu) (by simp [Value.oneCell']) (by unfold maxLen; omega) (by omega) hz (fun g' cap' w' ow' hg hor hlt => ?_)
      refine hK _ [g'] w' trivial ⟨g', cap', rfl, rfl, ow'⟩ (hbw.grown hg hz (fun k hk => by injection hk with hk; omega)) hg.size (fun b hb => ?_) (fun b hb hne => hg.block b hb (fun e => by injection e with e; exact hne 3 (by simp [eatsA]) (by rw [eg, e]; simp)))
      simp at hb; subst hb
      refine ⟨?_, hlt⟩
      rcases hor with h | h
      · exact .inl ⟨3, by simp [eatsA], by rw [eg, h]; simp⟩
      · exact .inr (by omega)
    · obtain ⟨ty, pos, af, e⟩ := o7; rw [ho] at e; obtain rfl := Option.some.inj e
      exact st_field3 ((hs 7 (by decide)).trans h7) (hK _ [] _ rfl rfl hbw (Nat.le_refl _) (fun b hb => by simp at hb) (fun b hb _ => rfl))
    · obtain ⟨ty, pos, af, e⟩ := o8; rw [ho] at e; obtain rfl := Option.some.inj e
      obtain ⟨d9, s9⟩ := hd 7 (by simp [depsA])
      have d9 : a.eval (.tmp 60) = v 7 := d9 (by decide)
      obtain ⟨d6, s6⟩ := hd 6 (by simp [depsA])
      have d6 : a.eval (.tmp 59) = v 6 := d6 (by decide)
      obtain ⟨⟨g1, cp, eg, e1, ow⟩, q2⟩ := hr 6 (.inl (by simp [eatsA]))
      obtain ⟨⟨er, hrw⟩, q5⟩ := hr 11 (.inl (by simp [eatsA]))
      have hne : g1 ≠ p0 := fun h => by
        have := hdj 6 11 g1 (.inl (by simp [eatsA])) (.inl (by simp [eatsA])) (by omega) (by rw [eg]; simp)
        rw [er, h] at this
        exact this (by simp)
      obtain ⟨q6, q7⟩ := q5 p0 (by rw [er]; simp)
      refine st_store26 (b := p0) (i := 7) (f := mV x) (d9.trans s9) (d6.trans e1) hrw (by omega) (hK undef [p0, g1] _ trivial ⟨g1, cp, rfl, hrw.set 7 _, own_atA ow (fun b hb => Below.heap_setCell _ _ _ _ (by injection hb with hb; subst hb; exact hne))⟩ (hbw.setCell (by exact q6) _) (Nat.le_of_eq (hsz' _ _ _).symm) (fun b hb => ?_) (fun b hb hne => Below.heap_setCell _ _ _ _ (by show b ≠ p0; exact fun h => hne 11 (by simp [eatsA]) (by rw [er, h]; simp))))
      rw [hsz']
      rcases List.mem_cons.1 hb with rfl | hb
      · exact ⟨.inl ⟨11, by simp [eatsA], by rw [er]; simp⟩, q7⟩
      · exact ⟨.inl ⟨6, by simp [eatsA], by rw [eg]; exact hb⟩, (q2 b (by rw [eg]; exact hb)).2⟩
  · intro u g w hS hR hD hbw hWw
    have hall : ∀ j ∈ [8, 9, 10], ∀ e, e < 9 → j ∉ eatsA e := by decide +kernel
    have hnf : ∀ j, j ∈ [8, 9, 10] → ∀ e, e < 9 → j ∉ eatsA e := fun j hj e he => hall j hj e he
    obtain ⟨⟨ga, cpa, e1, hrow0, ow⟩, _⟩ := hR 8 (by omega) (hnf _ (by simp))
    exact hend u ga cpa w hrow0 ow (hR 9 (by omega) (hnf _ (by simp))).1.2 (hR 10 (by omega) (hnf _ (by simp))).1.2 hbw hWw
def dstAS : Nat → Nat
  | 0 => 61
  | 1 => 62
  | 2 => 63
  | 3 => 64
  | 4 => 65
  | 5 => 66
  | 6 => 67
  | 7 => 68
  | 8 => 1008
  | k + 9 => 1009 + k
def SAS (nb p0 : Nat) (op nn : Int) (A : Option Addr) (len cap : Nat) (tA : Option Addr) (tn tc : Nat) (lA : Option Addr) (ln lc : Nat) : Nat → Value → Prop
  | 1, v => v = .pointer (some ⟨nb, 8, none⟩)
  | 2, v => v = .slice lA ln lc
  | 4, v => v = .agg #[.int .i64 op, .int .i64 nn, .slice A len cap, .slice tA tn tc]
  | 7, v => v = .pointer (some ⟨p0, 8, none⟩)
  | _, _ => True
def RAS (base nb cb p0 : Nat) (x : M8) (op nn : Int) (A : Option Addr) (len cap : Nat) (tA : Option Addr) (tn tc : Nat) (ln : Nat) (xs : List Value) : Nat → Value → World → List Nat → Prop
  | 0, v, w, gi => ∃ g, gi = [g] ∧ v = .slice (some ⟨g, 0, none⟩) 0 0 ∧ w.ownsRow base 71 4 (.slice (some ⟨g, 0, none⟩) 0 0) 0 []
  | 3, v, w, gi => ∃ g cp, gi = [g] ∧ v = .slice (some ⟨g, 0, none⟩) ln cp ∧ w.ownsRow base 71 4 (.slice (some ⟨g, 0, none⟩) ln cp) ln xs
  | 5, v, w, gi => ∃ g, gi = [g] ∧ v = .slice (some ⟨g, 0, none⟩) 1 1 ∧ w.heap[g]? = some (.cells #[.int .i64 op, .int .i64 nn, .slice A len cap, .slice tA tn tc] 71 (0, 0))
  | 6, v, w, gi => ∃ g cp, gi = [g] ∧ v = .slice (some ⟨g, 0, none⟩) (ln + 1) cp ∧ w.ownsRow base 71 4 (.slice (some ⟨g, 0, none⟩) (ln + 1) cp) (ln + 1) (xs ++ [.int .i64 op, .int .i64 nn, .slice A len cap, .slice tA tn tc])
  | 8, _, w, gi => ∃ g cp, gi = [p0, g] ∧ w.rowIs p0 28 12 (fun i => if i = 8 then .slice (some ⟨g, 0, none⟩) (ln + 1) cp else mV x i) ∧ w.ownsRow base 71 4 (.slice (some ⟨g, 0, none⟩) (ln + 1) cp) (ln + 1) (xs ++ [.int .i64 op, .int .i64 nn, .slice A len cap, .slice tA tn tc])
  | 9, _, w, gi => gi = [nb] ∧ w.rowIs nb 28 12 (mV x)
  | 10, _, w, gi => gi = [cb] ∧ BoxC w cb op nn A len cap tA tn tc
  | 11, _, w, gi => gi = [p0] ∧ w.rowIs p0 28 12 (mV x)
  | _, _, _, gi => gi = []
set_option maxHeartbeats 4000000 in
theorem amore_regionS {id nb cb p0 base ln lc : Nat} {ops : Array Oper} {Q : Exit → Act → World → Prop} {a0 : Act} {W : World} {x : M8} {op nn : Int} {A : Option Addr} {len cap : Nat} {tA : Option Addr} {tn tc : Nat} {lA : Option Addr} {xs : List Value}
    (hm : Tryz.prog.follows .mixedOrders = true) (hsz : ops.size = 9) (hac : ownAc ops = true) (hdep : ownDeps ops depsA = true)
    (o0 : ∃ ty pos af, ops[0]? = some ⟨some 61, .buildSlice 26 0 #[], ty, pos, af, none⟩)
    (o1 : ∃ ty pos af, ops[1]? = some ⟨some 62, .fieldAddr 28 (.tmp 3) 4, ty, pos, af, none⟩)
    (o2 : ∃ ty pos af, ops[2]? = some ⟨some 63, .load 26 (.tmp 62), ty, pos, af, none⟩)
    (o3 : ∃ ty pos af, ops[3]? = some ⟨some 64, .call { callee := .builtin .append, args := #[.tmp 61, .tmp 63], argTypes := #[26, 26] }, ty, pos, af, none⟩)
    (o4 : ∃ ty pos af, ops[4]? = some ⟨some 65, .load 71 (.tmp 4), ty, pos, af, none⟩)
    (o5 : ∃ ty pos af, ops[5]? = some ⟨some 66, .buildSlice 26 1 #[(0, .tmp 65)], ty, pos, af, none⟩)
    (o6 : ∃ ty pos af, ops[6]? = some ⟨some 67, .call { callee := .builtin .append, args := #[.tmp 64, .tmp 66], argTypes := #[26, 26] }, ty, pos, af, none⟩)
    (o7 : ∃ ty pos af, ops[7]? = some ⟨some 68, .fieldAddr 28 (.tmp 7) 4, ty, pos, af, none⟩)
    (o8 : ∃ ty pos af, ops[8]? = some ⟨none, .store 26 (.tmp 68) (.tmp 67), ty, pos, af, none⟩)
    (hts : 69 ≤ a0.tmps.size) (h3 : a0.eval (.tmp 3) = .pointer (some ⟨nb, 0, none⟩)) (h4 : a0.eval (.tmp 4) = .pointer (some ⟨cb, 0, none⟩)) (h7 : a0.eval (.tmp 7) = .pointer (some ⟨p0, 0, none⟩))
    (hx : x.sys = ⟨lA, ln, lc⟩) (hbc : BoxC W cb op nn A len cap tA tn tc) (hrow : W.rowIs nb 28 12 (mV x)) (hr0 : W.rowIs p0 28 12 (mV x)) (hnb : base ≤ nb ∧ nb < W.heap.size) (hcb : nb < cb ∧ cb < W.heap.size) (hp0 : cb < p0 ∧ p0 < W.heap.size) (hbase : base ≤ W.heap.size)
    (hlen : xs.length = ln * 4) (hnil : lA = none → ln = 0 ∧ lc = 0) (hcl : ∀ ad, lA = some ad → ∀ (j : Nat) u, xs[j]? = some u → ad.block < base ∧ W.cell? (ad.add j) = some u) (h1 : ∀ u ∈ xs, u.oneCell' = true) (hl : ln ≤ 100)
    (hend : ∀ (u : Nat → Value) (ga cpa : Nat) (w : World), w.rowIs p0 28 12 (fun i => if i = 8 then .slice (some ⟨ga, 0, none⟩) (ln + 1) cpa else mV x i) → w.ownsRow base 71 4 (.slice (some ⟨ga, 0, none⟩) (ln + 1) cpa) (ln + 1) (xs ++ [.int .i64 op, .int .i64 nn, .slice A len cap, .slice tA tn tc]) → w.rowIs nb 28 12 (mV x) → BoxC w cb op nn A len cap tA tn tc → Below base W w → W.heap.size ≤ w.heap.size → Q .normal (sel [61, 62, 63, 64, 65, 66, 67, 68] a0 u) w) :
    (Code.region id ops true).wp Tryz.prog Q a0 W := by
  obtain ⟨i0, hi0, hi1, hi2, hi3⟩ := info_parts infoC6
  refine region_res (n := 9) (N := 12) (base := base) [61, 62, 63, 64, 65, 66, 67, 68] dstAS depsA eatsA readsA (fun j => if j = 9 then [nb] else if j = 10 then [cb] else [p0]) (SAS nb p0 op nn A len cap tA tn tc lA ln lc) (RAS base nb cb p0 x op nn A len cap tA tn tc ln xs) hm hsz (by omega) hac hdep hbase ?_ ?_ ?_ ?_ ?_ ?_ ?_ ?_ ?_ ?_ ?_
  · intro i j hi h
    have hall : ∀ i, i < 9 → ∀ j ∈ eatsA i ++ readsA i, (j ∈ depsA i ∨ 9 ≤ j) ∧ j < 12 := by decide +kernel
    exact hall i hi j (List.mem_append.2 h)
  · intro i i' j hi hi' h h'
    have hall : ∀ i, i < 9 → ∀ i', i' < 9 → ∀ j ∈ eatsA i, j ∈ eatsA i' → i = i' := by decide +kernel
    exact hall i hi i' hi' j h h'
  · intro i e j hi he h h'
    have hall : ∀ i, i < 9 → ∀ e, e < 9 → ∀ j ∈ readsA i, j ∈ eatsA e → i ∈ depsA e := by decide +kernel
    exact hall i hi e he j h h'
  · intro i j hi h
    have hall : ∀ i, i < 9 → ∀ j ∈ depsA i, j < i := by decide +kernel
    exact hall i hi j h
  · intro i o ho
    have hi : i < 9 := by rw [← hsz]; exact (Array.getElem?_eq_some_iff.1 ho).1
    rcases lt9A hi with rfl | rfl | rfl | rfl | rfl | rfl | rfl | rfl | rfl
    · obtain ⟨ty, pos, af, e⟩ := o0; rw [ho] at e; obtain rfl := Option.some.inj e; exact .inl ⟨rfl, by decide, by show 61 < _; omega⟩
    · obtain ⟨ty, pos, af, e⟩ := o1; rw [ho] at e; obtain rfl := Option.some.inj e; exact .inl ⟨rfl, by decide, by show 62 < _; omega⟩
    · obtain ⟨ty, pos, af, e⟩ := o2; rw [ho] at e; obtain rfl := Option.some.inj e; exact .inl ⟨rfl, by decide, by show 63 < _; omega⟩
    · obtain ⟨ty, pos, af, e⟩ := o3; rw [ho] at e; obtain rfl := Option.some.inj e; exact .inl ⟨rfl, by decide, by show 64 < _; omega⟩
    · obtain ⟨ty, pos, af, e⟩ := o4; rw [ho] at e; obtain rfl := Option.some.inj e; exact .inl ⟨rfl, by decide, by show 65 < _; omega⟩
    · obtain ⟨ty, pos, af, e⟩ := o5; rw [ho] at e; obtain rfl := Option.some.inj e; exact .inl ⟨rfl, by decide, by show 66 < _; omega⟩
    · obtain ⟨ty, pos, af, e⟩ := o6; rw [ho] at e; obtain rfl := Option.some.inj e; exact .inl ⟨rfl, by decide, by show 67 < _; omega⟩
    · obtain ⟨ty, pos, af, e⟩ := o7; rw [ho] at e; obtain rfl := Option.some.inj e; exact .inl ⟨rfl, by decide, by show 68 < _; omega⟩
    · obtain ⟨ty, pos, af, e⟩ := o8; rw [ho] at e; obtain rfl := Option.some.inj e; exact .inr ⟨rfl, by decide⟩
  · intro i j hi hj h
    have hall : ∀ i, i < 12 → ∀ j, j < 12 → dstAS i = dstAS j → i = j := by decide +kernel
    exact hall i hi j hj h
  · intro j y w w' g hj hr hbw hbw' hk
    rcases lt12A hj with rfl | rfl | rfl | rfl | rfl | rfl | rfl | rfl | rfl | rfl | rfl | rfl
    · obtain ⟨g1, rfl, h, h'⟩ := hr; exact ⟨g1, rfl, h, own_atA h' (fun b hb => hk b (by injection hb with hb; subst hb; simp))⟩
    · exact hr
    · exact hr
    · obtain ⟨g1, cp, rfl, h, h'⟩ := hr; exact ⟨g1, cp, rfl, h, own_atA h' (fun b hb => hk b (by injection hb with hb; subst hb; simp))⟩
    · exact hr
    · obtain ⟨g1, rfl, h, h'⟩ := hr; exact ⟨g1, rfl, h, (hk _ (by simp)).trans h'⟩
    · obtain ⟨g1, cp, rfl, h, h'⟩ := hr; exact ⟨g1, cp, rfl, h, own_atA h' (fun b hb => hk b (by injection hb with hb; subst hb; simp))⟩
    · exact hr
    · obtain ⟨g1, cp, rfl, h, h'⟩ := hr; exact ⟨g1, cp, rfl, h.of_block (hk _ (by simp)), own_atA h' (fun b hb => hk b (by injection hb with hb; subst hb; simp))⟩
    · obtain ⟨rfl, h⟩ := hr; exact ⟨rfl, h.of_block (hk _ (by simp))⟩
    · obtain ⟨rfl, h1, h2, h3, h4⟩ := hr; exact ⟨rfl, (World.cell?_of_block (hk _ (by simp))).trans h1, (World.cell?_of_block (hk _ (by simp))).trans h2, (World.cell?_of_block (hk _ (by simp))).trans h3, (World.cell?_of_block (hk _ (by simp))).trans h4⟩
    · obtain ⟨rfl, h⟩ := hr; exact ⟨rfl, h.of_block (hk _ (by simp))⟩
  · intro j y hj hj2
    have h : j = 9 ∨ j = 10 ∨ j = 11 := by omega
    rcases h with rfl | rfl | rfl
    · exact ⟨trivial, ⟨rfl, hrow⟩, fun b hb => by simp at hb; subst hb; exact hnb⟩
    · exact ⟨trivial, ⟨rfl, hbc⟩, fun b hb => by simp at hb; subst hb; omega⟩
    · exact ⟨trivial, ⟨rfl, hr0⟩, fun b hb => by simp at hb; subst hb; omega⟩
  · intro i j b hi hi2 hj hj2 hne2 hb hb'
    have h : i = 9 ∨ i = 10 ∨ i = 11 := by omega
    have h' : j = 9 ∨ j = 10 ∨ j = 11 := by omega
    rcases h with rfl | rfl | rfl <;> rcases h' with rfl | rfl | rfl <;> simp at hb hb' <;> omega
  · intro i o a w v g K hi ho hs hd hr hdj hbw hWw hK
    have hz : base ≤ w.heap.size := by omega
    have hsz' : ∀ (b i : Nat) (u : Value), (w.setCell ⟨b, i, none⟩ u).heap.size = w.heap.size := fun b i u => by simp [World.setCell]
    rcases lt9A hi with rfl | rfl | rfl | rfl | rfl | rfl | rfl | rfl | rfl
    · obtain ⟨ty, pos, af, e⟩ := o0; rw [ho] at e; obtain rfl := Option.some.inj e
      exact st_none26A (hK _ [w.heap.size] _ trivial ⟨_, rfl, rfl, own_empty (new_at rfl) hz⟩ (hbw.alloc hz _) (by simp) (fun b hb => by simp at hb; subst hb; exact ⟨.inr (Nat.le_refl _), by simp⟩) (fun b hb _ => Below.heap_alloc _ _ _ hb))
    · obtain ⟨ty, pos, af, e⟩ := o1; rw [ho] at e; obtain rfl := Option.some.inj e
      exact st_field4 ((hs 3 (by decide)).trans h3) (hK _ [] _ rfl rfl hbw (Nat.le_refl _) (fun b hb => by simp at hb) (fun b hb _ => rfl))
    · obtain ⟨ty, pos, af, e⟩ := o2; rw [ho] at e; obtain rfl := Option.some.inj e
      obtain ⟨d1, s1⟩ := hd 1 (by simp [depsA])
      have d1 : a.eval (.tmp 62) = v 1 := d1 (by decide)
      obtain ⟨⟨_, hrw⟩, _⟩ := hr 9 (.inr (by simp [readsA]))
      exact st_load26A (d1.trans s1) (mcell_sys hrw hx) (hK _ [] _ rfl rfl hbw (Nat.le_refl _) (fun b hb => by simp at hb) (fun b hb _ => rfl))
    · obtain ⟨ty, pos, af, e⟩ := o3; rw [ho] at e; obtain rfl := Option.some.inj e
      obtain ⟨d0, s0⟩ := hd 0 (by simp [depsA])
      have d0 : a.eval (.tmp 61) = v 0 := d0 (by decide)
      obtain ⟨d2, s2⟩ := hd 2 (by simp [depsA])
      have d2 : a.eval (.tmp 63) = v 2 := d2 (by decide)
      obtain ⟨⟨g1, eg, e1, ow⟩, q2⟩ := hr 0 (.inl (by simp [eatsA]))
      obtain ⟨q3, q4⟩ := q2 g1 (by rw [eg]; simp)
      refine wp_append_row (.tmp 61) (.tmp 63) 26 rfl base 71 i0 _ 4 64 Tryz.underlying26 hi0 hi1 hi2 hi3 rfl (by omega) g1 0 0 [] (d0.trans e1) ow lA ln lc xs (d2.trans s2) hlen hnil (fun ad h j u hu => (World.cell?_of_block (by rw [add_blockA]; exact hbw.block _ (hcl ad h j u hu).1)).trans (hcl ad h j u hu).2) h1 (by unfold maxLen; omega) (by omega) hz (fun g' cap' w' ow' hg hor hlt => ?_)
      rw [Nat.zero_add, List.nil_append] at ow'
      rw [Nat.zero_add]
      refine hK _ [g'] w' trivial ⟨g', cap', rfl, rfl, ow'⟩ (hbw.grown hg hz (fun k hk => by injection hk with hk; omega)) hg.size (fun b hb => ?_) (fun b hb hne => hg.block b hb (fun e => by injection e with e; exact hne 0 (by simp [eatsA]) (by rw [eg, e]; simp)))
      simp at hb; subst hb
      refine ⟨?_, hlt⟩
      rcases hor with h | h
      · exact .inl ⟨0, by simp [eatsA], by rw [eg, h]; simp⟩
      · exact .inr (by omega)
    · obtain ⟨ty, pos, af, e⟩ := o4; rw [ho] at e; obtain rfl := Option.some.inj e
      obtain ⟨⟨_, hbx1⟩, _⟩ := hr 10 (.inr (by simp [readsA]))
      exact st_loadC6A ((hs 4 (by decide)).trans h4) hbx1 (hK _ [] _ rfl rfl hbw (Nat.le_refl _) (fun b hb => by simp at hb) (fun b hb _ => rfl))
    · obtain ⟨ty, pos, af, e⟩ := o5; rw [ho] at e; obtain rfl := Option.some.inj e
      obtain ⟨d4, s4⟩ := hd 4 (by simp [depsA])
      have d4 : a.eval (.tmp 65) = v 4 := d4 (by decide)
      exact st_one26A (d4.trans s4) (hK _ [w.heap.size] _ trivial ⟨_, rfl, rfl, new_at rfl⟩ (hbw.alloc hz _) (by simp) (fun b hb => by simp at hb; subst hb; exact ⟨.inr (Nat.le_refl _), by simp⟩) (fun b hb _ => Below.heap_alloc _ _ _ hb))
    · obtain ⟨ty, pos, af, e⟩ := o6; rw [ho] at e; obtain rfl := Option.some.inj e
      obtain ⟨d3, s3⟩ := hd 3 (by simp [depsA])
      have d3 : a.eval (.tmp 64) = v 3 := d3 (by decide)
      obtain ⟨d5, s5⟩ := hd 5 (by simp [depsA])
      have d5 : a.eval (.tmp 66) = v 5 := d5 (by decide)
      obtain ⟨⟨g1, cp1, eg, e1, ow⟩, q2⟩ := hr 3 (.inl (by simp [eatsA]))
      obtain ⟨⟨g5, eg5, e5, hg5⟩, q5⟩ := hr 5 (.inr (by simp [readsA]))
      obtain ⟨q3, q4⟩ := q2 g1 (by rw [eg]; simp)
      refine wp_append_row (.tmp 64) (.tmp 66) 26 rfl base 71 i0 _ 4 64 Tryz.underlying26 hi0 hi1 hi2 hi3 rfl (by omega) g1 ln cp1 xs (d3.trans e1) ow (some ⟨g5, 0, none⟩) 1 1 [.int .i64 op, .int .i64 nn, .slice A len cap, .slice tA tn tc] (d5.trans e5) rfl (fun h => by cases h) (fun ad h j u hu => by
        injection h with h
        subst h
        exact World.news_of_block hg5 j u hu) (by simp [Value.oneCell']) (by unfold maxLen; omega) (by omega) hz (fun g' cap' w' ow' hg hor hlt => ?_)
      refine hK _ [g'] w' trivial ⟨g', cap', rfl, rfl, ow'⟩ (hbw.grown hg hz (fun k hk => by injection hk with hk; omega)) hg.size (fun b hb => ?_) (fun b hb hne => hg.block b hb (fun e => by injection e with e; exact hne 3 (by simp [eatsA]) (by rw [eg, e]; simp)))
      simp at hb; subst hb
      refine ⟨?_, hlt⟩
      rcases hor with h | h
      · exact .inl ⟨3, by simp [eatsA], by rw [eg, h]; simp⟩
      · exact .inr (by omega)
    · obtain ⟨ty, pos, af, e⟩ := o7; rw [ho] at e; obtain rfl := Option.some.inj e
      exact st_field4 ((hs 7 (by decide)).trans h7) (hK _ [] _ rfl rfl hbw (Nat.le_refl _) (fun b hb => by simp at hb) (fun b hb _ => rfl))
    · obtain ⟨ty, pos, af, e⟩ := o8; rw [ho] at e; obtain rfl := Option.some.inj e
      obtain ⟨d9, s9⟩ := hd 7 (by simp [depsA])
      have d9 : a.eval (.tmp 68) = v 7 := d9 (by decide)
      obtain ⟨d6, s6⟩ := hd 6 (by simp [depsA])
      have d6 : a.eval (.tmp 67) = v 6 := d6 (by decide)
      obtain ⟨⟨g1, cp, eg, e1, ow⟩, q2⟩ := hr 6 (.inl (by simp [eatsA]))
      obtain ⟨⟨er, hrw⟩, q5⟩ := hr 11 (.inl (by simp [eatsA]))
      have hne : g1 ≠ p0 := fun h => by
        have := hdj 6 11 g1 (.inl (by simp [eatsA])) (.inl (by simp [eatsA])) (by omega) (by rw [eg]; simp)
        rw [er, h] at this
        exact this (by simp)
      obtain ⟨q6, q7⟩ := q5 p0 (by rw [er]; simp)
      refine st_store26 (b := p0) (i := 8) (f := mV x) (d9.trans s9) (d6.trans e1) hrw (by omega) (hK undef [p0, g1] _ trivial ⟨g1, cp, rfl, hrw.set 8 _, own_atA ow (fun b hb => Below.heap_setCell _ _ _ _ (by injection hb with hb; subst hb; exact hne))⟩ (hbw.setCell (by exact q6) _) (Nat.le_of_eq (hsz' _ _ _).symm) (fun b hb => ?_) (fun b hb hne => Below.heap_setCell _ _ _ _ (by show b ≠ p0; exact fun h => hne 11 (by simp [eatsA]) (by rw [er, h]; simp))))
      rw [hsz']
      rcases List.mem_cons.1 hb with rfl | hb
      · exact ⟨.inl ⟨11, by simp [eatsA], by rw [er]; simp⟩, q7⟩
      · exact ⟨.inl ⟨6, by simp [eatsA], by rw [eg]; exact hb⟩, (q2 b (by rw [eg]; exact hb)).2⟩
  · intro u g w hS hR hD hbw hWw
    have hall : ∀ j ∈ [8, 9, 10], ∀ e, e < 9 → j ∉ eatsA e := by decide +kernel
    have hnf : ∀ j, j ∈ [8, 9, 10] → ∀ e, e < 9 → j ∉ eatsA e := fun j hj e he => hall j hj e he
    obtain ⟨⟨ga, cpa, e1, hrow0, ow⟩, _⟩ := hR 8 (by omega) (hnf _ (by simp))
    exact hend u ga cpa w hrow0 ow (hR 9 (by omega) (hnf _ (by simp))).1.2 (hR 10 (by omega) (hnf _ (by simp))).1.2 hbw hWw
end Go.Proofs.YtbppdalfcldodaaGreat
