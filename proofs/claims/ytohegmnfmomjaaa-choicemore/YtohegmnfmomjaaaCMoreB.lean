/- the same for the system's commands. -/
import Derived.Test.YtohegmnfmomjaaaCMoreA
set_option maxRecDepth 100000
namespace Go.Proofs.Ytohegmnfmomjaaa
open Go.RowKit Ex
set_option linter.unusedSimpArgs false
set_option linter.unusedVariables false

def dstMS : Nat → Nat
  | 0 => 52
  | 1 => 53
  | 2 => 54
  | 3 => 55
  | 4 => 56
  | 5 => 57
  | 6 => 58
  | 7 => 59
  | 8 => 60
  | 9 => 61
  | 10 => 1010
  | 11 => 62
  | 12 => 1012
  | k + 13 => 1013 + k
def SMS (nb p0 p1 : Nat) (op nn : Int) (A : Option Addr) (len cap : Nat) (tA : Option Addr) (tn tc : Nat) (lA : Option Addr) (ln lc : Nat) : Nat → Value → Prop
  | 1, v => v = .pointer (some ⟨nb, 8, none⟩)
  | 2, v => v = .slice lA ln lc
  | 4, v => v = .agg #[.int .i64 op, .int .i64 nn, .slice A len cap, .slice tA tn tc]
  | 7, v => v = .agg #[.int .i64 op, .int .i64 nn, .slice A len cap, .slice tA tn tc]
  | 9, v => v = .pointer (some ⟨p0, 8, none⟩)
  | 11, v => v = .pointer (some ⟨p1, 8, none⟩)
  | _, _ => True
def RMS (base nb cb p0 p1 : Nat) (x : M8) (op nn : Int) (A : Option Addr) (len cap : Nat) (tA : Option Addr) (tn tc : Nat) (ln : Nat) (xs : List Value) : Nat → Value → World → List Nat → Prop
  | 0, v, w, gi => ∃ g, gi = [g] ∧ v = .slice (some ⟨g, 0, none⟩) 0 0 ∧ w.ownsRow base 31 4 (.slice (some ⟨g, 0, none⟩) 0 0) 0 []
  | 3, v, w, gi => ∃ g cp, gi = [g] ∧ v = .slice (some ⟨g, 0, none⟩) ln cp ∧ w.ownsRow base 31 4 (.slice (some ⟨g, 0, none⟩) ln cp) ln xs
  | 5, v, w, gi => ∃ g, gi = [g] ∧ v = .slice (some ⟨g, 0, none⟩) 1 1 ∧ w.heap[g]? = some (.cells #[.int .i64 op, .int .i64 nn, .slice A len cap, .slice tA tn tc] 31 (0, 0))
  | 6, v, w, gi => ∃ g cp, gi = [g] ∧ v = .slice (some ⟨g, 0, none⟩) (ln + 1) cp ∧ w.ownsRow base 31 4 (.slice (some ⟨g, 0, none⟩) (ln + 1) cp) (ln + 1) (xs ++ [.int .i64 op, .int .i64 nn, .slice A len cap, .slice tA tn tc])
  | 8, v, w, gi => ∃ g, gi = [g] ∧ v = .slice (some ⟨g, 0, none⟩) 1 1 ∧ w.heap[g]? = some (.cells #[.int .i64 op, .int .i64 nn, .slice A len cap, .slice tA tn tc] 31 (0, 0))
  | 10, _, w, gi => ∃ g cp, gi = [p0, g] ∧ w.rowIs p0 28 12 (fun i => if i = 8 then .slice (some ⟨g, 0, none⟩) (ln + 1) cp else mV x i) ∧ w.ownsRow base 31 4 (.slice (some ⟨g, 0, none⟩) (ln + 1) cp) (ln + 1) (xs ++ [.int .i64 op, .int .i64 nn, .slice A len cap, .slice tA tn tc])
  | 12, _, w, gi => ∃ g, gi = [p1, g] ∧ w.rowIs p1 28 12 (fun i => if i = 8 then .slice (some ⟨g, 0, none⟩) 1 1 else mV x i) ∧ w.heap[g]? = some (.cells #[.int .i64 op, .int .i64 nn, .slice A len cap, .slice tA tn tc] 31 (0, 0))
  | 13, _, w, gi => gi = [nb] ∧ w.rowIs nb 28 12 (mV x)
  | 14, _, w, gi => gi = [cb] ∧ BoxC w cb op nn A len cap tA tn tc
  | 15, _, w, gi => gi = [p0] ∧ w.rowIs p0 28 12 (mV x)
  | 16, _, w, gi => gi = [p1] ∧ w.rowIs p1 28 12 (mV x)
  | _, _, _, gi => gi = []
set_option maxHeartbeats 4000000 in
theorem more_regionS {id nb cb p0 p1 base ln lc : Nat} {ops : Array Oper} {Q : Exit → Act → World → Prop} {a0 : Act} {W : World} {x : M8} {op nn : Int} {A : Option Addr} {len cap : Nat} {tA : Option Addr} {tn tc : Nat} {lA : Option Addr} {xs : List Value}
    (hm : Try.prog.follows .mixedOrders = true) (hsz : ops.size = 13) (hac : ownAc ops = true) (hdep : ownDeps ops depsM = true)
    (o0 : ∃ ty pos af, ops[0]? = some ⟨some 52, .buildSlice 26 0 #[], ty, pos, af, none⟩)
    (o1 : ∃ ty pos af, ops[1]? = some ⟨some 53, .fieldAddr 28 (.tmp 5) 4, ty, pos, af, none⟩)
    (o2 : ∃ ty pos af, ops[2]? = some ⟨some 54, .load 26 (.tmp 53), ty, pos, af, none⟩)
    (o3 : ∃ ty pos af, ops[3]? = some ⟨some 55, .call { callee := .builtin .append, args := #[.tmp 52, .tmp 54], argTypes := #[26, 26] }, ty, pos, af, none⟩)
    (o4 : ∃ ty pos af, ops[4]? = some ⟨some 56, .load 31 (.tmp 6), ty, pos, af, none⟩)
    (o5 : ∃ ty pos af, ops[5]? = some ⟨some 57, .buildSlice 26 1 #[(0, .tmp 56)], ty, pos, af, none⟩)
    (o6 : ∃ ty pos af, ops[6]? = some ⟨some 58, .call { callee := .builtin .append, args := #[.tmp 55, .tmp 57], argTypes := #[26, 26] }, ty, pos, af, none⟩)
    (o7 : ∃ ty pos af, ops[7]? = some ⟨some 59, .load 31 (.tmp 6), ty, pos, af, none⟩)
    (o8 : ∃ ty pos af, ops[8]? = some ⟨some 60, .buildSlice 26 1 #[(0, .tmp 59)], ty, pos, af, none⟩)
    (o9 : ∃ ty pos af, ops[9]? = some ⟨some 61, .fieldAddr 28 (.tmp 11) 4, ty, pos, af, none⟩)
    (o10 : ∃ ty pos af, ops[10]? = some ⟨none, .store 26 (.tmp 61) (.tmp 58), ty, pos, af, none⟩)
    (o11 : ∃ ty pos af, ops[11]? = some ⟨some 62, .fieldAddr 28 (.tmp 12) 4, ty, pos, af, none⟩)
    (o12 : ∃ ty pos af, ops[12]? = some ⟨none, .store 26 (.tmp 62) (.tmp 60), ty, pos, af, none⟩)
    (hts : 63 ≤ a0.tmps.size) (h5 : a0.eval (.tmp 5) = .pointer (some ⟨nb, 0, none⟩)) (h6 : a0.eval (.tmp 6) = .pointer (some ⟨cb, 0, none⟩)) (h11 : a0.eval (.tmp 11) = .pointer (some ⟨p0, 0, none⟩)) (h12 : a0.eval (.tmp 12) = .pointer (some ⟨p1, 0, none⟩))
    (hx : x.sys = ⟨lA, ln, lc⟩) (hbc : BoxC W cb op nn A len cap tA tn tc) (hrow : W.rowIs nb 28 12 (mV x)) (hr0 : W.rowIs p0 28 12 (mV x)) (hr1 : W.rowIs p1 28 12 (mV x)) (hnb : base ≤ nb ∧ nb < W.heap.size) (hcb : nb < cb ∧ cb < W.heap.size) (hp0 : cb < p0 ∧ p0 < W.heap.size) (hp1 : cb < p1 ∧ p1 < W.heap.size) (hp : p0 ≠ p1) (hbase : base ≤ W.heap.size)
    (hlen : xs.length = ln * 4) (hnil : lA = none → ln = 0 ∧ lc = 0) (hcl : ∀ ad, lA = some ad → ∀ (j : Nat) u, xs[j]? = some u → ad.block < base ∧ W.cell? (ad.add j) = some u) (h1 : ∀ u ∈ xs, u.oneCell' = true) (hl : ln ≤ 100)
    (hend : ∀ (u : Nat → Value) (ga cpa gb : Nat) (w : World), w.rowIs p0 28 12 (fun i => if i = 8 then .slice (some ⟨ga, 0, none⟩) (ln + 1) cpa else mV x i) → w.ownsRow base 31 4 (.slice (some ⟨ga, 0, none⟩) (ln + 1) cpa) (ln + 1) (xs ++ [.int .i64 op, .int .i64 nn, .slice A len cap, .slice tA tn tc]) → w.rowIs p1 28 12 (fun i => if i = 8 then .slice (some ⟨gb, 0, none⟩) 1 1 else mV x i) → w.heap[gb]? = some (.cells #[.int .i64 op, .int .i64 nn, .slice A len cap, .slice tA tn tc] 31 (0, 0)) → w.rowIs nb 28 12 (mV x) → BoxC w cb op nn A len cap tA tn tc → Below base W w → W.heap.size ≤ w.heap.size → Q .normal (sel [52, 53, 54, 55, 56, 57, 58, 59, 60, 61, 62] a0 u) w) :
    (Code.region id ops true).wp Try.prog Q a0 W := by
  obtain ⟨i0, hi0, hi1, hi2, hi3⟩ := info_parts infoC6
  refine region_res (n := 13) (N := 17) (base := base) [52, 53, 54, 55, 56, 57, 58, 59, 60, 61, 62] dstMS depsM eatsM readsM (fun j => if j = 13 then [nb] else if j = 14 then [cb] else if j = 15 then [p0] else [p1]) (SMS nb p0 p1 op nn A len cap tA tn tc lA ln lc) (RMS base nb cb p0 p1 x op nn A len cap tA tn tc ln xs) hm hsz (by omega) hac hdep hbase ?_ ?_ ?_ ?_ ?_ ?_ ?_ ?_ ?_ ?_ ?_
  · intro i j hi h
    have hall : ∀ i, i < 13 → ∀ j ∈ eatsM i ++ readsM i, (j ∈ depsM i ∨ 13 ≤ j) ∧ j < 17 := by decide +kernel
    exact hall i hi j (List.mem_append.2 h)
  · intro i i' j hi hi' h h'
    have hall : ∀ i, i < 13 → ∀ i', i' < 13 → ∀ j ∈ eatsM i, j ∈ eatsM i' → i = i' := by decide +kernel
    exact hall i hi i' hi' j h h'
  · intro i e j hi he h h'
    have hall : ∀ i, i < 13 → ∀ e, e < 13 → ∀ j ∈ readsM i, j ∈ eatsM e → i ∈ depsM e := by decide +kernel
    exact hall i hi e he j h h'
  · intro i j hi h
    have hall : ∀ i, i < 13 → ∀ j ∈ depsM i, j < i := by decide +kernel
    exact hall i hi j h
  · intro i o ho
    have hi : i < 13 := by rw [← hsz]; exact (Array.getElem?_eq_some_iff.1 ho).1
    rcases lt13 hi with rfl | rfl | rfl | rfl | rfl | rfl | rfl | rfl | rfl | rfl | rfl | rfl | rfl
    · obtain ⟨ty, pos, af, e⟩ := o0; rw [ho] at e; obtain rfl := Option.some.inj e; exact .inl ⟨rfl, by decide, by show 52 < _; omega⟩
    · obtain ⟨ty, pos, af, e⟩ := o1; rw [ho] at e; obtain rfl := Option.some.inj e; exact .inl ⟨rfl, by decide, by show 53 < _; omega⟩
    · obtain ⟨ty, pos, af, e⟩ := o2; rw [ho] at e; obtain rfl := Option.some.inj e; exact .inl ⟨rfl, by decide, by show 54 < _; omega⟩
    · obtain ⟨ty, pos, af, e⟩ := o3; rw [ho] at e; obtain rfl := Option.some.inj e; exact .inl ⟨rfl, by decide, by show 55 < _; omega⟩
    · obtain ⟨ty, pos, af, e⟩ := o4; rw [ho] at e; obtain rfl := Option.some.inj e; exact .inl ⟨rfl, by decide, by show 56 < _; omega⟩
    · obtain ⟨ty, pos, af, e⟩ := o5; rw [ho] at e; obtain rfl := Option.some.inj e; exact .inl ⟨rfl, by decide, by show 57 < _; omega⟩
    · obtain ⟨ty, pos, af, e⟩ := o6; rw [ho] at e; obtain rfl := Option.some.inj e; exact .inl ⟨rfl, by decide, by show 58 < _; omega⟩
    · obtain ⟨ty, pos, af, e⟩ := o7; rw [ho] at e; obtain rfl := Option.some.inj e; exact .inl ⟨rfl, by decide, by show 59 < _; omega⟩
    · obtain ⟨ty, pos, af, e⟩ := o8; rw [ho] at e; obtain rfl := Option.some.inj e; exact .inl ⟨rfl, by decide, by show 60 < _; omega⟩
    · obtain ⟨ty, pos, af, e⟩ := o9; rw [ho] at e; obtain rfl := Option.some.inj e; exact .inl ⟨rfl, by decide, by show 61 < _; omega⟩
    · obtain ⟨ty, pos, af, e⟩ := o10; rw [ho] at e; obtain rfl := Option.some.inj e; exact .inr ⟨rfl, by decide⟩
    · obtain ⟨ty, pos, af, e⟩ := o11; rw [ho] at e; obtain rfl := Option.some.inj e; exact .inl ⟨rfl, by decide, by show 62 < _; omega⟩
    · obtain ⟨ty, pos, af, e⟩ := o12; rw [ho] at e; obtain rfl := Option.some.inj e; exact .inr ⟨rfl, by decide⟩
  · intro i j hi hj h
    have hall : ∀ i, i < 17 → ∀ j, j < 17 → dstMS i = dstMS j → i = j := by decide +kernel
    exact hall i hi j hj h
  · intro j y w w' g hj hr hbw hbw' hk
    rcases lt17' hj with rfl | rfl | rfl | rfl | rfl | rfl | rfl | rfl | rfl | rfl | rfl | rfl | rfl | rfl | rfl | rfl | rfl
    · obtain ⟨g1, rfl, h, h'⟩ := hr; exact ⟨g1, rfl, h, own_at h' (fun b hb => hk b (by injection hb with hb; subst hb; simp))⟩
    · exact hr
    · exact hr
    · obtain ⟨g1, cp, rfl, h, h'⟩ := hr; exact ⟨g1, cp, rfl, h, own_at h' (fun b hb => hk b (by injection hb with hb; subst hb; simp))⟩
    · exact hr
    · obtain ⟨g1, rfl, h, h'⟩ := hr; exact ⟨g1, rfl, h, (hk _ (by simp)).trans h'⟩
    · obtain ⟨g1, cp, rfl, h, h'⟩ := hr; exact ⟨g1, cp, rfl, h, own_at h' (fun b hb => hk b (by injection hb with hb; subst hb; simp))⟩
    · exact hr
    · obtain ⟨g1, rfl, h, h'⟩ := hr; exact ⟨g1, rfl, h, (hk _ (by simp)).trans h'⟩
    · exact hr
    · obtain ⟨g1, cp, rfl, h, h'⟩ := hr; exact ⟨g1, cp, rfl, h.of_block (hk _ (by simp)), own_at h' (fun b hb => hk b (by injection hb with hb; subst hb; simp))⟩
    · exact hr
    · obtain ⟨g1, rfl, h, h'⟩ := hr; exact ⟨g1, rfl, h.of_block (hk _ (by simp)), (hk _ (by simp)).trans h'⟩
    · obtain ⟨rfl, h⟩ := hr; exact ⟨rfl, h.of_block (hk _ (by simp))⟩
    · obtain ⟨rfl, h1, h2, h3, h4⟩ := hr; exact ⟨rfl, (World.cell?_of_block (hk _ (by simp))).trans h1, (World.cell?_of_block (hk _ (by simp))).trans h2, (World.cell?_of_block (hk _ (by simp))).trans h3, (World.cell?_of_block (hk _ (by simp))).trans h4⟩
    · obtain ⟨rfl, h⟩ := hr; exact ⟨rfl, h.of_block (hk _ (by simp))⟩
    · obtain ⟨rfl, h⟩ := hr; exact ⟨rfl, h.of_block (hk _ (by simp))⟩
  · intro j y hj hj2
    have h : j = 13 ∨ j = 14 ∨ j = 15 ∨ j = 16 := by omega
    rcases h with rfl | rfl | rfl | rfl
    · exact ⟨trivial, ⟨rfl, hrow⟩, fun b hb => by simp at hb; subst hb; exact hnb⟩
    · exact ⟨trivial, ⟨rfl, hbc⟩, fun b hb => by simp at hb; subst hb; omega⟩
    · exact ⟨trivial, ⟨rfl, hr0⟩, fun b hb => by simp at hb; subst hb; omega⟩
    · exact ⟨trivial, ⟨rfl, hr1⟩, fun b hb => by simp at hb; subst hb; omega⟩
  · intro i j b hi hi2 hj hj2 hne2 hb hb'
    have h : i = 13 ∨ i = 14 ∨ i = 15 ∨ i = 16 := by omega
    have h' : j = 13 ∨ j = 14 ∨ j = 15 ∨ j = 16 := by omega
    rcases h with rfl | rfl | rfl | rfl <;> rcases h' with rfl | rfl | rfl | rfl <;> simp at hb hb' <;> omega
  · intro i o a w v g K hi ho hs hd hr hdj hbw hWw hK
    have hz : base ≤ w.heap.size := by omega
    have hsz' : ∀ (b i : Nat) (u : Value), (w.setCell ⟨b, i, none⟩ u).heap.size = w.heap.size := fun b i u => by simp [World.setCell]
    rcases lt13 hi with rfl | rfl | rfl | rfl | rfl | rfl | rfl | rfl | rfl | rfl | rfl | rfl | rfl
    · obtain ⟨ty, pos, af, e⟩ := o0; rw [ho] at e; obtain rfl := Option.some.inj e
      exact st_none26 (hK _ [w.heap.size] _ trivial ⟨_, rfl, rfl, own_empty (new_at rfl) hz⟩ (hbw.alloc hz _) (by simp) (fun b hb => by simp at hb; subst hb; exact ⟨.inr (Nat.le_refl _), by simp⟩) (fun b hb _ => Below.heap_alloc _ _ _ hb))
    · obtain ⟨ty, pos, af, e⟩ := o1; rw [ho] at e; obtain rfl := Option.some.inj e
      exact st_field4 ((hs 5 (by decide)).trans h5) (hK _ [] _ rfl rfl hbw (Nat.le_refl _) (fun b hb => by simp at hb) (fun b hb _ => rfl))
    · obtain ⟨ty, pos, af, e⟩ := o2; rw [ho] at e; obtain rfl := Option.some.inj e
      obtain ⟨d1, s1⟩ := hd 1 (by simp [depsM])
      have d1 : a.eval (.tmp 53) = v 1 := d1 (by decide)
      obtain ⟨⟨_, hrw⟩, _⟩ := hr 13 (.inr (by simp [readsM]))
      exact st_load26 (d1.trans s1) (mcell_sys hrw hx) (hK _ [] _ rfl rfl hbw (Nat.le_refl _) (fun b hb => by simp at hb) (fun b hb _ => rfl))
    · obtain ⟨ty, pos, af, e⟩ := o3; rw [ho] at e; obtain rfl := Option.some.inj e
      obtain ⟨d0, s0⟩ := hd 0 (by simp [depsM])
      have d0 : a.eval (.tmp 52) = v 0 := d0 (by decide)
      obtain ⟨d2, s2⟩ := hd 2 (by simp [depsM])
      have d2 : a.eval (.tmp 54) = v 2 := d2 (by decide)
      obtain ⟨⟨g1, eg, e1, ow⟩, q2⟩ := hr 0 (.inl (by simp [eatsM]))
      obtain ⟨q3, q4⟩ := q2 g1 (by rw [eg]; simp)
      refine wp_append_row (.tmp 52) (.tmp 54) 26 rfl base 31 i0 _ 4 64 Try.underlying26 hi0 hi1 hi2 hi3 rfl (by omega) g1 0 0 [] (d0.trans e1) ow lA ln lc xs (d2.trans s2) hlen hnil (fun ad h j u hu => (World.cell?_of_block (by rw [add_block]; exact hbw.block _ (hcl ad h j u hu).1)).trans (hcl ad h j u hu).2) h1 (by unfold maxLen; omega) (by omega) hz (fun g' cap' w' ow' hg hor hlt => ?_)
      rw [Nat.zero_add, List.nil_append] at ow'
      rw [Nat.zero_add]
      refine hK _ [g'] w' trivial ⟨g', cap', rfl, rfl, ow'⟩ (hbw.grown hg hz (fun k hk => by injection hk with hk; omega)) hg.size (fun b hb => ?_) (fun b hb hne => hg.block b hb (fun e => by injection e with e; exact hne 0 (by simp [eatsM]) (by rw [eg, e]; simp)))
      simp at hb; subst hb
      refine ⟨?_, hlt⟩
      rcases hor with h | h
      · exact .inl ⟨0, by simp [eatsM], by rw [eg, h]; simp⟩
      · exact .inr (by omega)
    · obtain ⟨ty, pos, af, e⟩ := o4; rw [ho] at e; obtain rfl := Option.some.inj e
      obtain ⟨⟨_, hbx1⟩, _⟩ := hr 14 (.inr (by simp [readsM]))
      exact st_loadC6 ((hs 6 (by decide)).trans h6) hbx1 (hK _ [] _ rfl rfl hbw (Nat.le_refl _) (fun b hb => by simp at hb) (fun b hb _ => rfl))
    · obtain ⟨ty, pos, af, e⟩ := o5; rw [ho] at e; obtain rfl := Option.some.inj e
      obtain ⟨d4, s4⟩ := hd 4 (by simp [depsM])
      have d4 : a.eval (.tmp 56) = v 4 := d4 (by decide)
      exact st_one26 (d4.trans s4) (hK _ [w.heap.size] _ trivial ⟨_, rfl, rfl, new_at rfl⟩ (hbw.alloc hz _) (by simp) (fun b hb => by simp at hb; subst hb; exact ⟨.inr (Nat.le_refl _), by simp⟩) (fun b hb _ => Below.heap_alloc _ _ _ hb))
    · obtain ⟨ty, pos, af, e⟩ := o6; rw [ho] at e; obtain rfl := Option.some.inj e
      obtain ⟨d3, s3⟩ := hd 3 (by simp [depsM])
      have d3 : a.eval (.tmp 55) = v 3 := d3 (by decide)
      obtain ⟨d5, s5⟩ := hd 5 (by simp [depsM])
      have d5 : a.eval (.tmp 57) = v 5 := d5 (by decide)
      obtain ⟨⟨g1, cp1, eg, e1, ow⟩, q2⟩ := hr 3 (.inl (by simp [eatsM]))
      obtain ⟨⟨g5, eg5, e5, hg5⟩, q5⟩ := hr 5 (.inr (by simp [readsM]))
      obtain ⟨q3, q4⟩ := q2 g1 (by rw [eg]; simp)
      refine wp_append_row (.tmp 55) (.tmp 57) 26 rfl base 31 i0 _ 4 64 Try.underlying26 hi0 hi1 hi2 hi3 rfl (by omega) g1 ln cp1 xs (d3.trans e1) ow (some ⟨g5, 0, none⟩) 1 1 [.int .i64 op, .int .i64 nn, .slice A len cap, .slice tA tn tc] (d5.trans e5) rfl (fun h => by cases h) (fun ad h j u hu => by
        injection h with h
        subst h
        exact World.news_of_block hg5 j u hu) (by simp [Value.oneCell']) (by unfold maxLen; omega) (by omega) hz (fun g' cap' w' ow' hg hor hlt => ?_)
      refine hK _ [g'] w' trivial ⟨g', cap', rfl, rfl, ow'⟩ (hbw.grown hg hz (fun k hk => by injection hk with hk; omega)) hg.size (fun b hb => ?_) (fun b hb hne => hg.block b hb (fun e => by injection e with e; exact hne 3 (by simp [eatsM]) (by rw [eg, e]; simp)))
      simp at hb; subst hb
      refine ⟨?_, hlt⟩
      rcases hor with h | h
      · exact .inl ⟨3, by simp [eatsM], by rw [eg, h]; simp⟩
      · exact .inr (by omega)
    · obtain ⟨ty, pos, af, e⟩ := o7; rw [ho] at e; obtain rfl := Option.some.inj e
      obtain ⟨⟨_, hbx1⟩, _⟩ := hr 14 (.inr (by simp [readsM]))
      exact st_loadC6 ((hs 6 (by decide)).trans h6) hbx1 (hK _ [] _ rfl rfl hbw (Nat.le_refl _) (fun b hb => by simp at hb) (fun b hb _ => rfl))
    · obtain ⟨ty, pos, af, e⟩ := o8; rw [ho] at e; obtain rfl := Option.some.inj e
      obtain ⟨d7, s7⟩ := hd 7 (by simp [depsM])
      have d7 : a.eval (.tmp 59) = v 7 := d7 (by decide)
      exact st_one26 (d7.trans s7) (hK _ [w.heap.size] _ trivial ⟨_, rfl, rfl, new_at rfl⟩ (hbw.alloc hz _) (by simp) (fun b hb => by simp at hb; subst hb; exact ⟨.inr (Nat.le_refl _), by simp⟩) (fun b hb _ => Below.heap_alloc _ _ _ hb))
    · obtain ⟨ty, pos, af, e⟩ := o9; rw [ho] at e; obtain rfl := Option.some.inj e
      exact st_field4 ((hs 11 (by decide)).trans h11) (hK _ [] _ rfl rfl hbw (Nat.le_refl _) (fun b hb => by simp at hb) (fun b hb _ => rfl))
    · obtain ⟨ty, pos, af, e⟩ := o10; rw [ho] at e; obtain rfl := Option.some.inj e
      obtain ⟨d9, s9⟩ := hd 9 (by simp [depsM])
      have d9 : a.eval (.tmp 61) = v 9 := d9 (by decide)
      obtain ⟨d6, s6⟩ := hd 6 (by simp [depsM])
      have d6 : a.eval (.tmp 58) = v 6 := d6 (by decide)
      obtain ⟨⟨g1, cp, eg, e1, ow⟩, q2⟩ := hr 6 (.inl (by simp [eatsM]))
      obtain ⟨⟨er, hrw⟩, q5⟩ := hr 15 (.inl (by simp [eatsM]))
      have hne : g1 ≠ p0 := fun h => by
        have := hdj 6 15 g1 (.inl (by simp [eatsM])) (.inl (by simp [eatsM])) (by omega) (by rw [eg]; simp)
        rw [er, h] at this
        exact this (by simp)
      obtain ⟨q6, q7⟩ := q5 p0 (by rw [er]; simp)
      refine st_store26 (b := p0) (i := 8) (f := mV x) (d9.trans s9) (d6.trans e1) hrw (by omega) (hK undef [p0, g1] _ trivial ⟨g1, cp, rfl, hrw.set 8 _, own_at ow (fun b hb => Below.heap_setCell _ _ _ _ (by injection hb with hb; subst hb; exact hne))⟩ (hbw.setCell (by exact q6) _) (Nat.le_of_eq (hsz' _ _ _).symm) (fun b hb => ?_) (fun b hb hne => Below.heap_setCell _ _ _ _ (by show b ≠ p0; exact fun h => hne 15 (by simp [eatsM]) (by rw [er, h]; simp))))
      rw [hsz']
      rcases List.mem_cons.1 hb with rfl | hb
      · exact ⟨.inl ⟨15, by simp [eatsM], by rw [er]; simp⟩, q7⟩
      · exact ⟨.inl ⟨6, by simp [eatsM], by rw [eg]; exact hb⟩, (q2 b (by rw [eg]; exact hb)).2⟩
    · obtain ⟨ty, pos, af, e⟩ := o11; rw [ho] at e; obtain rfl := Option.some.inj e
      exact st_field4 ((hs 12 (by decide)).trans h12) (hK _ [] _ rfl rfl hbw (Nat.le_refl _) (fun b hb => by simp at hb) (fun b hb _ => rfl))
    · obtain ⟨ty, pos, af, e⟩ := o12; rw [ho] at e; obtain rfl := Option.some.inj e
      obtain ⟨d11, s11⟩ := hd 11 (by simp [depsM])
      have d11 : a.eval (.tmp 62) = v 11 := d11 (by decide)
      obtain ⟨d8, s8⟩ := hd 8 (by simp [depsM])
      have d8 : a.eval (.tmp 60) = v 8 := d8 (by decide)
      obtain ⟨⟨g1, eg, e1, hgc⟩, q2⟩ := hr 8 (.inl (by simp [eatsM]))
      obtain ⟨⟨er, hrw⟩, q5⟩ := hr 16 (.inl (by simp [eatsM]))
      have hne : g1 ≠ p1 := fun h => by
        have := hdj 8 16 g1 (.inl (by simp [eatsM])) (.inl (by simp [eatsM])) (by omega) (by rw [eg]; simp)
        rw [er, h] at this
        exact this (by simp)
      obtain ⟨q6, q7⟩ := q5 p1 (by rw [er]; simp)
      refine st_store26 (b := p1) (i := 8) (f := mV x) (d11.trans s11) (d8.trans e1) hrw (by omega) (hK undef [p1, g1] _ trivial ⟨g1, rfl, hrw.set 8 _, (Below.heap_setCell _ _ _ _ (by exact hne)).trans hgc⟩ (hbw.setCell (by exact q6) _) (Nat.le_of_eq (hsz' _ _ _).symm) (fun b hb => ?_) (fun b hb hne => Below.heap_setCell _ _ _ _ (by show b ≠ p1; exact fun h => hne 16 (by simp [eatsM]) (by rw [er, h]; simp))))
      rw [hsz']
      rcases List.mem_cons.1 hb with rfl | hb
      · exact ⟨.inl ⟨16, by simp [eatsM], by rw [er]; simp⟩, q7⟩
      · exact ⟨.inl ⟨8, by simp [eatsM], by rw [eg]; exact hb⟩, (q2 b (by rw [eg]; exact hb)).2⟩
  · intro u g w hS hR hD hbw hWw
    have hall : ∀ j ∈ [10, 12, 13, 14], ∀ e, e < 13 → j ∉ eatsM e := by decide +kernel
    have hnf : ∀ j, j ∈ [10, 12, 13, 14] → ∀ e, e < 13 → j ∉ eatsM e := fun j hj e he => hall j hj e he
    obtain ⟨⟨ga, cpa, e1, hrow0, ow⟩, _⟩ := hR 10 (by omega) (hnf _ (by simp))
    obtain ⟨⟨gb, e2, hrow1, hgb⟩, _⟩ := hR 12 (by omega) (hnf _ (by simp))
    exact hend u ga cpa gb w hrow0 ow hrow1 hgb (hR 13 (by omega) (hnf _ (by simp))).1.2 (hR 14 (by omega) (hnf _ (by simp))).1.2 hbw hWw
end Go.Proofs.Ytohegmnfmomjaaa
