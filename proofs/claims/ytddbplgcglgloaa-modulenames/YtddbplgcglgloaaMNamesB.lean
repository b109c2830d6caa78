/- 'n.Vars, t.Vars = append([]Var, m.Vars...), append(append([]Var, m.Vars...), m.Vars[k])' in a region that draws its order. -/
import Derived.Test.YtddbplgcglgloaaMNamesA
namespace Go.Proofs.Ytddbplgcglgloaa
open Go.RowKit Ex
set_option linter.unusedSimpArgs false
set_option linter.unusedVariables false

def dstN : Nat → Nat
  | 0 => 38
  | 1 => 39
  | 2 => 40
  | 3 => 41
  | 4 => 42
  | 5 => 43
  | 6 => 44
  | 7 => 45
  | 8 => 46
  | 9 => 47
  | 10 => 48
  | 11 => 49
  | 12 => 50
  | 13 => 51
  | 14 => 52
  | 15 => 53
  | 16 => 1016
  | 17 => 54
  | 18 => 1018
  | k + 19 => 1019 + k
def depsN : Nat → List Nat
  | 2 => [1]
  | 3 => [0, 2]
  | 6 => [5]
  | 7 => [4, 6]
  | 9 => [8]
  | 11 => [9, 10]
  | 12 => [11]
  | 13 => [12]
  | 14 => [7, 13]
  | 16 => [15, 3]
  | 18 => [17, 14]
  | _ => []
def eatsN : Nat → List Nat
  | 3 => [0]
  | 7 => [4]
  | 14 => [7]
  | 16 => [3, 19]
  | 18 => [14, 20]
  | _ => []
def readsN : Nat → List Nat
  | 14 => [13]
  | _ => []
def SN (nb vb vo vn vc q g0 g1 : Nat) (vk : Dom.V) : Nat → Value → Prop
  | 1, v => v = .pointer (some ⟨nb, 0, none⟩)
  | 2, v => v = .slice (some ⟨vb, vo, none⟩) vn vc
  | 5, v => v = .pointer (some ⟨nb, 0, none⟩)
  | 6, v => v = .slice (some ⟨vb, vo, none⟩) vn vc
  | 8, v => v = .pointer (some ⟨nb, 0, none⟩)
  | 9, v => v = .slice (some ⟨vb, vo, none⟩) vn vc
  | 10, v => v = .int .i64 (q : Int)
  | 11, v => v = .pointer (some ⟨vb, vo + q * 5, none⟩)
  | 12, v => v = .agg (vcells vk).toArray
  | 15, v => v = .pointer (some ⟨g0, 0, none⟩)
  | 17, v => v = .pointer (some ⟨g1, 0, none⟩)
  | _, _ => True
def RN (base vn g0 g1 : Nat) (x : M8) (vk : Dom.V) (xs : List Value) : Nat → Value → World → List Nat → Prop
  | 0, v, w, gi => ∃ g, gi = [g] ∧ OwnR w base 42 5 0 [] v g
  | 3, v, w, gi => ∃ g, gi = [g] ∧ OwnR w base 42 5 vn xs v g
  | 4, v, w, gi => ∃ g, gi = [g] ∧ OwnR w base 42 5 0 [] v g
  | 7, v, w, gi => ∃ g, gi = [g] ∧ OwnR w base 42 5 vn xs v g
  | 13, v, w, gi => ∃ g, gi = [g] ∧ v = .slice (some ⟨g, 0, none⟩) 1 1 ∧ w.heap[g]? = some (.cells (vcells vk).toArray 42 (0, 0))
  | 14, v, w, gi => ∃ g, gi = [g] ∧ OwnR w base 42 5 (vn + 1) (xs ++ vcells vk) v g
  | 16, _, w, gi => ∃ gv cap, gi = [g0, gv] ∧ w.rowIs g0 28 12 (fun i => if i = 0 then .slice (some ⟨gv, 0, none⟩) vn cap else mV x i) ∧ w.ownsRow base 42 5 (.slice (some ⟨gv, 0, none⟩) vn cap) vn xs
  | 18, _, w, gi => ∃ gv cap, gi = [g1, gv] ∧ w.rowIs g1 28 12 (fun i => if i = 0 then .slice (some ⟨gv, 0, none⟩) (vn + 1) cap else mV x i) ∧ w.ownsRow base 42 5 (.slice (some ⟨gv, 0, none⟩) (vn + 1) cap) (vn + 1) (xs ++ vcells vk)
  | 19, _, w, gi => gi = [g0] ∧ w.rowIs g0 28 12 (mV x)
  | 20, _, w, gi => gi = [g1] ∧ w.rowIs g1 28 12 (mV x)
  | _, _, _, gi => gi = []
theorem lt19 {i : Nat} (h : i < 19) : i = 0 ∨ i = 1 ∨ i = 2 ∨ i = 3 ∨ i = 4 ∨ i = 5 ∨ i = 6 ∨ i = 7 ∨ i = 8 ∨ i = 9 ∨ i = 10 ∨ i = 11 ∨ i = 12 ∨ i = 13 ∨ i = 14 ∨ i = 15 ∨ i = 16 ∨ i = 17 ∨ i = 18 := by omega
theorem lt21 {i : Nat} (h : i < 21) : i = 0 ∨ i = 1 ∨ i = 2 ∨ i = 3 ∨ i = 4 ∨ i = 5 ∨ i = 6 ∨ i = 7 ∨ i = 8 ∨ i = 9 ∨ i = 10 ∨ i = 11 ∨ i = 12 ∨ i = 13 ∨ i = 14 ∨ i = 15 ∨ i = 16 ∨ i = 17 ∨ i = 18 ∨ i = 19 ∨ i = 20 := by omega
theorem blk_own {w : World} {base e sz n cap g : Nat} {xs : List Value} (h : w.ownsRow base e sz (.slice (some ⟨g, 0, none⟩) n cap) n xs) : base ≤ g ∧ g < w.heap.size := by
  rcases h.2 with ⟨e1, _⟩ | ⟨g3, cap3, cur, e1, h2, h3, _⟩
  · cases e1
  · injection e1 with e2
    injection e2 with e2
    injection e2 with e2
    subst e2
    exact ⟨h2, (Array.getElem?_eq_some_iff.1 h3).1⟩
set_option maxRecDepth 100000 in
set_option maxHeartbeats 2000000 in
theorem names_region {id nb vb vo vn vc q g0 g1 base : Nat} {ops : Array Oper} {Q : Exit → Act → World → Prop} {a0 : Act} {W : World} {x : M8} {vk : Dom.V} {xs : List Value}
    (hm : Try.prog.follows .mixedOrders = true) (hsz : ops.size = 19) (hac : ownAc ops = true) (hdep : ownDeps ops depsN = true)
    (o0 : ∃ ty pos af, ops[0]? = some ⟨some 38, .buildSlice 22 0 #[], ty, pos, af, none⟩)
    (o1 : ∃ ty pos af, ops[1]? = some ⟨some 39, .fieldAddr 28 (.tmp 2) 0, ty, pos, af, none⟩)
    (o2 : ∃ ty pos af, ops[2]? = some ⟨some 40, .load 22 (.tmp 39), ty, pos, af, none⟩)
    (o3 : ∃ ty pos af, ops[3]? = some ⟨some 41, .call { callee := .builtin .append, args := #[.tmp 38, .tmp 40], argTypes := #[22, 22] }, ty, pos, af, none⟩)
    (o4 : ∃ ty pos af, ops[4]? = some ⟨some 42, .buildSlice 22 0 #[], ty, pos, af, none⟩)
    (o5 : ∃ ty pos af, ops[5]? = some ⟨some 43, .fieldAddr 28 (.tmp 2) 0, ty, pos, af, none⟩)
    (o6 : ∃ ty pos af, ops[6]? = some ⟨some 44, .load 22 (.tmp 43), ty, pos, af, none⟩)
    (o7 : ∃ ty pos af, ops[7]? = some ⟨some 45, .call { callee := .builtin .append, args := #[.tmp 42, .tmp 44], argTypes := #[22, 22] }, ty, pos, af, none⟩)
    (o8 : ∃ ty pos af, ops[8]? = some ⟨some 46, .fieldAddr 28 (.tmp 2) 0, ty, pos, af, none⟩)
    (o9 : ∃ ty pos af, ops[9]? = some ⟨some 47, .load 22 (.tmp 46), ty, pos, af, none⟩)
    (o10 : ∃ ty pos af, ops[10]? = some ⟨some 48, .move (.tmp 1), ty, pos, af, none⟩)
    (o11 : ∃ ty pos af, ops[11]? = some ⟨some 49, .indexAddr 22 (.tmp 47) (.tmp 48), ty, pos, af, none⟩)
    (o12 : ∃ ty pos af, ops[12]? = some ⟨some 50, .load 42 (.tmp 49), ty, pos, af, none⟩)
    (o13 : ∃ ty pos af, ops[13]? = some ⟨some 51, .buildSlice 22 1 #[(0, .tmp 50)], ty, pos, af, none⟩)
    (o14 : ∃ ty pos af, ops[14]? = some ⟨some 52, .call { callee := .builtin .append, args := #[.tmp 45, .tmp 51], argTypes := #[22, 22] }, ty, pos, af, none⟩)
    (o15 : ∃ ty pos af, ops[15]? = some ⟨some 53, .fieldAddr 28 (.tmp 5) 0, ty, pos, af, none⟩)
    (o16 : ∃ ty pos af, ops[16]? = some ⟨none, .store 22 (.tmp 53) (.tmp 41), ty, pos, af, none⟩)
    (o17 : ∃ ty pos af, ops[17]? = some ⟨some 54, .fieldAddr 28 (.tmp 6) 0, ty, pos, af, none⟩)
    (o18 : ∃ ty pos af, ops[18]? = some ⟨none, .store 22 (.tmp 54) (.tmp 52), ty, pos, af, none⟩)
    (hts : 55 ≤ a0.tmps.size) (h1 : a0.eval (.tmp 1) = .int .i64 (q : Int)) (h2 : a0.eval (.tmp 2) = .pointer (some ⟨nb, 0, none⟩)) (h5 : a0.eval (.tmp 5) = .pointer (some ⟨g0, 0, none⟩)) (h6 : a0.eval (.tmp 6) = .pointer (some ⟨g1, 0, none⟩))
    (hnb : W.cell? ⟨nb, 0, none⟩ = some (.slice (some ⟨vb, vo, none⟩) vn vc)) (hbn : nb < base) (hvb : vb < base) (hvk : Dom.CellV W vb (vo + q * 5) vk) (hq : q < vn)
    (hlen : xs.length = vn * 5) (hcl : ∀ (j : Nat) u, xs[j]? = some u → W.cell? ((⟨vb, vo, none⟩ : Addr).add j) = some u) (hone : ∀ u ∈ xs, u.oneCell' = true) (hl : vn ≤ 100)
    (hbase : base ≤ W.heap.size) (hg0 : base ≤ g0 ∧ g0 < W.heap.size) (hg1 : base ≤ g1 ∧ g1 < W.heap.size) (hg01 : g0 ≠ g1) (hr0 : W.rowIs g0 28 12 (mV x)) (hr1 : W.rowIs g1 28 12 (mV x))
    (hend : ∀ (u : Nat → Value) (gv cap gt cap2 : Nat) (w : World), w.rowIs g0 28 12 (fun i => if i = 0 then .slice (some ⟨gv, 0, none⟩) vn cap else mV x i) → w.ownsRow base 42 5 (.slice (some ⟨gv, 0, none⟩) vn cap) vn xs →
      w.rowIs g1 28 12 (fun i => if i = 0 then .slice (some ⟨gt, 0, none⟩) (vn + 1) cap2 else mV x i) → w.ownsRow base 42 5 (.slice (some ⟨gt, 0, none⟩) (vn + 1) cap2) (vn + 1) (xs ++ vcells vk) → gv ≠ gt → gv ≠ g0 → gv ≠ g1 → gt ≠ g0 → gt ≠ g1 →
      Below base W w → Q .normal (sel [38, 39, 40, 41, 42, 43, 44, 45, 46, 47, 48, 49, 50, 51, 52, 53, 54] a0 u) w) :
    (Code.region id ops true).wp Try.prog Q a0 W := by
  obtain ⟨i0, hi0, hi1, hi2, hi3⟩ := info_parts infoV
  refine region_res (n := 19) (N := 21) (base := base) [38, 39, 40, 41, 42, 43, 44, 45, 46, 47, 48, 49, 50, 51, 52, 53, 54] dstN depsN eatsN readsN (fun j => if j = 19 then [g0] else [g1]) (SN nb vb vo vn vc q g0 g1 vk) (RN base vn g0 g1 x vk xs) hm hsz (by omega) hac hdep hbase ?_ ?_ ?_ ?_ ?_ ?_ ?_ ?_ ?_ ?_ ?_
  · intro i j hi h
    rcases lt19 hi with rfl | rfl | rfl | rfl | rfl | rfl | rfl | rfl | rfl | rfl | rfl | rfl | rfl | rfl | rfl | rfl | rfl | rfl | rfl <;> simp [eatsN, readsN, depsN] at h ⊢ <;> omega
  · intro i i' j hi hi' h h'
    rcases lt19 hi with rfl | rfl | rfl | rfl | rfl | rfl | rfl | rfl | rfl | rfl | rfl | rfl | rfl | rfl | rfl | rfl | rfl | rfl | rfl <;> simp [eatsN] at h <;> rcases lt19 hi' with rfl | rfl | rfl | rfl | rfl | rfl | rfl | rfl | rfl | rfl | rfl | rfl | rfl | rfl | rfl | rfl | rfl | rfl | rfl <;> simp [eatsN] at h' <;> omega
  · intro i e j hi he h h'
    rcases lt19 hi with rfl | rfl | rfl | rfl | rfl | rfl | rfl | rfl | rfl | rfl | rfl | rfl | rfl | rfl | rfl | rfl | rfl | rfl | rfl <;> simp [readsN] at h <;> rcases lt19 he with rfl | rfl | rfl | rfl | rfl | rfl | rfl | rfl | rfl | rfl | rfl | rfl | rfl | rfl | rfl | rfl | rfl | rfl | rfl <;> simp [eatsN] at h' <;> omega
  · intro i j hi h
    rcases lt19 hi with rfl | rfl | rfl | rfl | rfl | rfl | rfl | rfl | rfl | rfl | rfl | rfl | rfl | rfl | rfl | rfl | rfl | rfl | rfl <;> simp [depsN] at h <;> omega
  · intro i o ho
    have hi : i < 19 := by rw [← hsz]; exact (Array.getElem?_eq_some_iff.1 ho).1
    rcases lt19 hi with rfl | rfl | rfl | rfl | rfl | rfl | rfl | rfl | rfl | rfl | rfl | rfl | rfl | rfl | rfl | rfl | rfl | rfl | rfl
    · obtain ⟨ty, pos, af, e⟩ := o0; rw [ho] at e; obtain rfl := Option.some.inj e; exact .inl ⟨rfl, by decide, by show 38 < _; omega⟩
    · obtain ⟨ty, pos, af, e⟩ := o1; rw [ho] at e; obtain rfl := Option.some.inj e; exact .inl ⟨rfl, by decide, by show 39 < _; omega⟩
    · obtain ⟨ty, pos, af, e⟩ := o2; rw [ho] at e; obtain rfl := Option.some.inj e; exact .inl ⟨rfl, by decide, by show 40 < _; omega⟩
    · obtain ⟨ty, pos, af, e⟩ := o3; rw [ho] at e; obtain rfl := Option.some.inj e; exact .inl ⟨rfl, by decide, by show 41 < _; omega⟩
    · obtain ⟨ty, pos, af, e⟩ := o4; rw [ho] at e; obtain rfl := Option.some.inj e; exact .inl ⟨rfl, by decide, by show 42 < _; omega⟩
    · obtain ⟨ty, pos, af, e⟩ := o5; rw [ho] at e; obtain rfl := Option.some.inj e; exact .inl ⟨rfl, by decide, by show 43 < _; omega⟩
    · obtain ⟨ty, pos, af, e⟩ := o6; rw [ho] at e; obtain rfl := Option.some.inj e; exact .inl ⟨rfl, by decide, by show 44 < _; omega⟩
    · obtain ⟨ty, pos, af, e⟩ := o7; rw [ho] at e; obtain rfl := Option.some.inj e; exact .inl ⟨rfl, by decide, by show 45 < _; omega⟩
    · obtain ⟨ty, pos, af, e⟩ := o8; rw [ho] at e; obtain rfl := Option.some.inj e; exact .inl ⟨rfl, by decide, by show 46 < _; omega⟩
    · obtain ⟨ty, pos, af, e⟩ := o9; rw [ho] at e; obtain rfl := Option.some.inj e; exact .inl ⟨rfl, by decide, by show 47 < _; omega⟩
    · obtain ⟨ty, pos, af, e⟩ := o10; rw [ho] at e; obtain rfl := Option.some.inj e; exact .inl ⟨rfl, by decide, by show 48 < _; omega⟩
    · obtain ⟨ty, pos, af, e⟩ := o11; rw [ho] at e; obtain rfl := Option.some.inj e; exact .inl ⟨rfl, by decide, by show 49 < _; omega⟩
    · obtain ⟨ty, pos, af, e⟩ := o12; rw [ho] at e; obtain rfl := Option.some.inj e; exact .inl ⟨rfl, by decide, by show 50 < _; omega⟩
    · obtain ⟨ty, pos, af, e⟩ := o13; rw [ho] at e; obtain rfl := Option.some.inj e; exact .inl ⟨rfl, by decide, by show 51 < _; omega⟩
    · obtain ⟨ty, pos, af, e⟩ := o14; rw [ho] at e; obtain rfl := Option.some.inj e; exact .inl ⟨rfl, by decide, by show 52 < _; omega⟩
    · obtain ⟨ty, pos, af, e⟩ := o15; rw [ho] at e; obtain rfl := Option.some.inj e; exact .inl ⟨rfl, by decide, by show 53 < _; omega⟩
    · obtain ⟨ty, pos, af, e⟩ := o16; rw [ho] at e; obtain rfl := Option.some.inj e; exact .inr ⟨rfl, by decide⟩
    · obtain ⟨ty, pos, af, e⟩ := o17; rw [ho] at e; obtain rfl := Option.some.inj e; exact .inl ⟨rfl, by decide, by show 54 < _; omega⟩
    · obtain ⟨ty, pos, af, e⟩ := o18; rw [ho] at e; obtain rfl := Option.some.inj e; exact .inr ⟨rfl, by decide⟩
  · intro i j hi hj h
    have hd : ∀ k, k < 21 → dstN k = [38, 39, 40, 41, 42, 43, 44, 45, 46, 47, 48, 49, 50, 51, 52, 53, 1016, 54, 1018, 1019, 1020].getD k 0 := fun k hk => by
      rcases lt21 hk with rfl | rfl | rfl | rfl | rfl | rfl | rfl | rfl | rfl | rfl | rfl | rfl | rfl | rfl | rfl | rfl | rfl | rfl | rfl | rfl | rfl <;> rfl
    rw [hd i hi, hd j hj] at h
    have hall : ∀ i, i < 21 → ∀ j, j < 21 → [38, 39, 40, 41, 42, 43, 44, 45, 46, 47, 48, 49, 50, 51, 52, 53, 1016, 54, 1018, 1019, 1020].getD i 0 = [38, 39, 40, 41, 42, 43, 44, 45, 46, 47, 48, 49, 50, 51, 52, 53, 1016, 54, 1018, 1019, 1020].getD j 0 → i = j := by decide +kernel
    exact hall i hi j hj h
  · intro j y w w' g hj hr hbw hbw' hk
    rcases lt21 hj with rfl | rfl | rfl | rfl | rfl | rfl | rfl | rfl | rfl | rfl | rfl | rfl | rfl | rfl | rfl | rfl | rfl | rfl | rfl | rfl | rfl
    · obtain ⟨g1', rfl, h⟩ := hr; exact ⟨g1', rfl, h.keep (hk _ (by simp))⟩
    · exact hr
    · exact hr
    · obtain ⟨g1', rfl, h⟩ := hr; exact ⟨g1', rfl, h.keep (hk _ (by simp))⟩
    · obtain ⟨g1', rfl, h⟩ := hr; exact ⟨g1', rfl, h.keep (hk _ (by simp))⟩
    · exact hr
    · exact hr
    · obtain ⟨g1', rfl, h⟩ := hr; exact ⟨g1', rfl, h.keep (hk _ (by simp))⟩
    · exact hr
    · exact hr
    · exact hr
    · exact hr
    · exact hr
    · obtain ⟨g1', rfl, h, h'⟩ := hr; exact ⟨g1', rfl, h, (hk _ (by simp)).trans h'⟩
    · obtain ⟨g1', rfl, h⟩ := hr; exact ⟨g1', rfl, h.keep (hk _ (by simp))⟩
    · exact hr
    · obtain ⟨gv, cap, rfl, h, h'⟩ := hr
      obtain ⟨cap', e, h2⟩ := OwnR.keep (w' := w') ⟨cap, rfl, h'⟩ (hk gv (by simp))
      exact ⟨gv, cap, rfl, h.of_block (hk _ (by simp)), h2⟩
    · exact hr
    · obtain ⟨gv, cap, rfl, h, h'⟩ := hr
      obtain ⟨cap', e, h2⟩ := OwnR.keep (w' := w') ⟨cap, rfl, h'⟩ (hk gv (by simp))
      exact ⟨gv, cap, rfl, h.of_block (hk _ (by simp)), h2⟩
    · obtain ⟨rfl, h⟩ := hr; exact ⟨rfl, h.of_block (hk _ (by simp))⟩
    · obtain ⟨rfl, h⟩ := hr; exact ⟨rfl, h.of_block (hk _ (by simp))⟩
  · intro j y hj hj2
    have h : j = 19 ∨ j = 20 := by omega
    rcases h with rfl | rfl
    · exact ⟨trivial, ⟨rfl, hr0⟩, fun b hb => by simp at hb; subst hb; exact hg0⟩
    · exact ⟨trivial, ⟨rfl, hr1⟩, fun b hb => by simp at hb; subst hb; exact hg1⟩
  · intro i j b hi hi2 hj hj2 hne hb hb'
    have h : i = 19 ∨ i = 20 := by omega
    have h' : j = 19 ∨ j = 20 := by omega
    rcases h with rfl | rfl <;> rcases h' with rfl | rfl <;> simp at hb hb' <;> omega
  · intro i o a w v g K hi ho hs hd hr hdj hbw hWw hK
    have hz : base ≤ w.heap.size := by omega
    have hold : ∀ (p : Addr) u, W.cell? p = some u → p.block < base → w.cell? p = some u := fun p u h hp => (hbw.cell hp).trans h
    rcases lt19 hi with rfl | rfl | rfl | rfl | rfl | rfl | rfl | rfl | rfl | rfl | rfl | rfl | rfl | rfl | rfl | rfl | rfl | rfl | rfl
    · obtain ⟨ty, pos, af, e⟩ := o0; rw [ho] at e; obtain rfl := Option.some.inj e
      exact st_noneV (hK _ [w.heap.size] _ trivial ⟨_, rfl, 0, rfl, own_empty (new_at rfl) hz⟩ (hbw.alloc hz _) (by simp) (fun b hb => by simp at hb; subst hb; exact ⟨.inr (Nat.le_refl _), by simp⟩) (fun b hb _ => Below.heap_alloc _ _ _ hb))
    · obtain ⟨ty, pos, af, e⟩ := o1; rw [ho] at e; obtain rfl := Option.some.inj e
      exact st_field0 ((hs 2 (by decide)).trans h2) (hK _ [] _ rfl rfl hbw (Nat.le_refl _) (fun b hb => by simp at hb) (fun b hb _ => rfl))
    · obtain ⟨ty, pos, af, e⟩ := o2; rw [ho] at e; obtain rfl := Option.some.inj e
      obtain ⟨e2, e3⟩ := hd 1 (by simp [depsN])
      have e2 : a.eval (.tmp 39) = v 1 := e2 (by decide)
      have e3 : v 1 = .pointer (some ⟨nb, 0, none⟩) := e3
      exact st_load22 (e2.trans e3) (hold _ _ hnb hbn) (hK _ [] _ rfl rfl hbw (Nat.le_refl _) (fun b hb => by simp at hb) (fun b hb _ => rfl))
    · obtain ⟨ty, pos, af, e⟩ := o3; rw [ho] at e; obtain rfl := Option.some.inj e
      obtain ⟨⟨gg, eg, cap, e1, ow⟩, q2⟩ := hr 0 (.inl (by simp [eatsN]))
      obtain ⟨q3, q4⟩ := q2 gg (by rw [eg]; simp)
      obtain ⟨e2, _⟩ := hd 0 (by simp [depsN])
      obtain ⟨e4, e5⟩ := hd 2 (by simp [depsN])
      have e2 : a.eval (.tmp 38) = v 0 := e2 (by decide)
      have e4 : a.eval (.tmp 40) = v 2 := e4 (by decide)
      have e5 : v 2 = .slice (some ⟨vb, vo, none⟩) vn vc := e5
      rw [e1] at e2 ow
      refine wp_append_row (.tmp 38) (.tmp 40) 22 rfl base 42 i0 _ 5 48 Try.underlying22 hi0 hi1 hi2 hi3 rfl (by omega) gg 0 cap [] e2 ow (some ⟨vb, vo, none⟩) vn vc xs (e4.trans e5) hlen (fun h => by cases h) (fun ad h j u hu => by
        injection h with h
        subst h
        have h' := hcl j u hu
        refine hold _ _ h' ?_
        unfold Addr.add
        split <;> exact hvb) hone (by unfold maxLen; omega) (by omega) hz (fun g' cap' w' ow' hg hor hlt => ?_)
      rw [Nat.zero_add, List.nil_append] at ow'
      rw [Nat.zero_add]
      refine hK _ [g'] w' trivial ⟨g', rfl, cap', rfl, ow'⟩ (hbw.grown hg hz (fun k hk => by injection hk with hk; omega)) hg.size (fun b hb => ?_) (fun b hb hne => hg.block b hb (fun e => by injection e with e; exact hne 0 (by simp [eatsN]) (by rw [eg, e]; simp)))
      simp at hb
      subst hb
      refine ⟨?_, hlt⟩
      rcases hor with h | h
      · exact .inl ⟨0, by simp [eatsN], by rw [eg, h]; simp⟩
      · exact .inr (by omega)
    · obtain ⟨ty, pos, af, e⟩ := o4; rw [ho] at e; obtain rfl := Option.some.inj e
      exact st_noneV (hK _ [w.heap.size] _ trivial ⟨_, rfl, 0, rfl, own_empty (new_at rfl) hz⟩ (hbw.alloc hz _) (by simp) (fun b hb => by simp at hb; subst hb; exact ⟨.inr (Nat.le_refl _), by simp⟩) (fun b hb _ => Below.heap_alloc _ _ _ hb))
    · obtain ⟨ty, pos, af, e⟩ := o5; rw [ho] at e; obtain rfl := Option.some.inj e
      exact st_field0 ((hs 2 (by decide)).trans h2) (hK _ [] _ rfl rfl hbw (Nat.le_refl _) (fun b hb => by simp at hb) (fun b hb _ => rfl))
    · obtain ⟨ty, pos, af, e⟩ := o6; rw [ho] at e; obtain rfl := Option.some.inj e
      obtain ⟨e2, e3⟩ := hd 5 (by simp [depsN])
      have e2 : a.eval (.tmp 43) = v 5 := e2 (by decide)
      have e3 : v 5 = .pointer (some ⟨nb, 0, none⟩) := e3
      exact st_load22 (e2.trans e3) (hold _ _ hnb hbn) (hK _ [] _ rfl rfl hbw (Nat.le_refl _) (fun b hb => by simp at hb) (fun b hb _ => rfl))
    · obtain ⟨ty, pos, af, e⟩ := o7; rw [ho] at e; obtain rfl := Option.some.inj e
      obtain ⟨⟨gg, eg, cap, e1, ow⟩, q2⟩ := hr 4 (.inl (by simp [eatsN]))
      obtain ⟨q3, q4⟩ := q2 gg (by rw [eg]; simp)
      obtain ⟨e2, _⟩ := hd 4 (by simp [depsN])
      obtain ⟨e4, e5⟩ := hd 6 (by simp [depsN])
      have e2 : a.eval (.tmp 42) = v 4 := e2 (by decide)
      have e4 : a.eval (.tmp 44) = v 6 := e4 (by decide)
      have e5 : v 6 = .slice (some ⟨vb, vo, none⟩) vn vc := e5
      rw [e1] at e2 ow
      refine wp_append_row (.tmp 42) (.tmp 44) 22 rfl base 42 i0 _ 5 48 Try.underlying22 hi0 hi1 hi2 hi3 rfl (by omega) gg 0 cap [] e2 ow (some ⟨vb, vo, none⟩) vn vc xs (e4.trans e5) hlen (fun h => by cases h) (fun ad h j u hu => by
        injection h with h
        subst h
        have h' := hcl j u hu
        refine hold _ _ h' ?_
        unfold Addr.add
        split <;> exact hvb) hone (by unfold maxLen; omega) (by omega) hz (fun g' cap' w' ow' hg hor hlt => ?_)
      rw [Nat.zero_add, List.nil_append] at ow'
      rw [Nat.zero_add]
      refine hK _ [g'] w' trivial ⟨g', rfl, cap', rfl, ow'⟩ (hbw.grown hg hz (fun k hk => by injection hk with hk; omega)) hg.size (fun b hb => ?_) (fun b hb hne => hg.block b hb (fun e => by injection e with e; exact hne 4 (by simp [eatsN]) (by rw [eg, e]; simp)))
      simp at hb
      subst hb
      refine ⟨?_, hlt⟩
      rcases hor with h | h
      · exact .inl ⟨4, by simp [eatsN], by rw [eg, h]; simp⟩
      · exact .inr (by omega)
    · obtain ⟨ty, pos, af, e⟩ := o8; rw [ho] at e; obtain rfl := Option.some.inj e
      exact st_field0 ((hs 2 (by decide)).trans h2) (hK _ [] _ rfl rfl hbw (Nat.le_refl _) (fun b hb => by simp at hb) (fun b hb _ => rfl))
    · obtain ⟨ty, pos, af, e⟩ := o9; rw [ho] at e; obtain rfl := Option.some.inj e
      obtain ⟨e2, e3⟩ := hd 8 (by simp [depsN])
      have e2 : a.eval (.tmp 46) = v 8 := e2 (by decide)
      have e3 : v 8 = .pointer (some ⟨nb, 0, none⟩) := e3
      exact st_load22 (e2.trans e3) (hold _ _ hnb hbn) (hK _ [] _ rfl rfl hbw (Nat.le_refl _) (fun b hb => by simp at hb) (fun b hb _ => rfl))
    · obtain ⟨ty, pos, af, e⟩ := o10; rw [ho] at e; obtain rfl := Option.some.inj e
      exact st_move ((hs 1 (by decide)).trans h1) (hK _ [] _ rfl rfl hbw (Nat.le_refl _) (fun b hb => by simp at hb) (fun b hb _ => rfl))
    · obtain ⟨ty, pos, af, e⟩ := o11; rw [ho] at e; obtain rfl := Option.some.inj e
      obtain ⟨e2, e3⟩ := hd 9 (by simp [depsN])
      obtain ⟨e4, e5⟩ := hd 10 (by simp [depsN])
      have e2 : a.eval (.tmp 47) = v 9 := e2 (by decide)
      have e4 : a.eval (.tmp 48) = v 10 := e4 (by decide)
      exact st_index (e2.trans e3) (e4.trans e5) hq (hK _ [] _ rfl rfl hbw (Nat.le_refl _) (fun b hb => by simp at hb) (fun b hb _ => rfl))
    · obtain ⟨ty, pos, af, e⟩ := o12; rw [ho] at e; obtain rfl := Option.some.inj e
      obtain ⟨e2, e3⟩ := hd 11 (by simp [depsN])
      have e2 : a.eval (.tmp 49) = v 11 := e2 (by decide)
      exact st_loadVar (e2.trans e3) (hvk.keep (fun p hp => hbw.cell (by rw [hp]; exact hvb))) (hK _ [] _ rfl rfl hbw (Nat.le_refl _) (fun b hb => by simp at hb) (fun b hb _ => rfl))
    · obtain ⟨ty, pos, af, e⟩ := o13; rw [ho] at e; obtain rfl := Option.some.inj e
      obtain ⟨e2, e3⟩ := hd 12 (by simp [depsN])
      have e2 : a.eval (.tmp 50) = v 12 := e2 (by decide)
      exact st_oneV (e2.trans e3) (hK _ [w.heap.size] _ trivial ⟨_, rfl, rfl, new_at rfl⟩ (hbw.alloc hz _) (by simp) (fun b hb => by simp at hb; subst hb; exact ⟨.inr (Nat.le_refl _), by simp⟩) (fun b hb _ => Below.heap_alloc _ _ _ hb))
    · obtain ⟨ty, pos, af, e⟩ := o14; rw [ho] at e; obtain rfl := Option.some.inj e
      obtain ⟨⟨gg, eg, cap, e1, ow⟩, q2⟩ := hr 7 (.inl (by simp [eatsN]))
      obtain ⟨q3, q4⟩ := q2 gg (by rw [eg]; simp)
      obtain ⟨⟨gh, eh, e6, hh⟩, _⟩ := hr 13 (.inr (by simp [readsN]))
      obtain ⟨e2, _⟩ := hd 7 (by simp [depsN])
      obtain ⟨e4, _⟩ := hd 13 (by simp [depsN])
      have e2 : a.eval (.tmp 45) = v 7 := e2 (by decide)
      have e4 : a.eval (.tmp 51) = v 13 := e4 (by decide)
      rw [e1] at e2 ow
      refine wp_append_row (.tmp 45) (.tmp 51) 22 rfl base 42 i0 _ 5 48 Try.underlying22 hi0 hi1 hi2 hi3 rfl (by omega) gg vn cap xs e2 ow (some ⟨gh, 0, none⟩) 1 1 (vcells vk) (e4.trans e6) rfl (fun h => by cases h) (fun ad h j u hu => by
        injection h with h
        subst h
        exact World.news_of_block hh j u (by simpa using hu)) (by simp [vcells, Value.oneCell']) (by unfold maxLen; omega) (by omega) hz (fun g' cap' w' ow' hg hor hlt => ?_)
      refine hK _ [g'] w' trivial ⟨g', rfl, cap', rfl, ow'⟩ (hbw.grown hg hz (fun k hk => by injection hk with hk; omega)) hg.size (fun b hb => ?_) (fun b hb hne => hg.block b hb (fun e => by injection e with e; exact hne 7 (by simp [eatsN]) (by rw [eg, e]; simp)))
      simp at hb
      subst hb
      refine ⟨?_, hlt⟩
      rcases hor with h | h
      · exact .inl ⟨7, by simp [eatsN], by rw [eg, h]; simp⟩
      · exact .inr (by omega)
    · obtain ⟨ty, pos, af, e⟩ := o15; rw [ho] at e; obtain rfl := Option.some.inj e
      exact st_field0 ((hs 5 (by decide)).trans h5) (hK _ [] _ rfl rfl hbw (Nat.le_refl _) (fun b hb => by simp at hb) (fun b hb _ => rfl))
    · obtain ⟨ty, pos, af, e⟩ := o16; rw [ho] at e; obtain rfl := Option.some.inj e
      obtain ⟨⟨gg, eg, cap, e1, ow⟩, q2⟩ := hr 3 (.inl (by simp [eatsN]))
      obtain ⟨⟨er, hrow⟩, q5⟩ := hr 19 (.inl (by simp [eatsN]))
      have hgg := hdj 3 19 gg (.inl (by simp [eatsN])) (.inl (by simp [eatsN])) (by omega) (by rw [eg]; simp)
      rw [er] at hgg
      have hgn : gg ≠ g0 := fun h => hgg (by rw [h]; simp)
      obtain ⟨q6, q7⟩ := q5 g0 (by rw [er]; simp)
      obtain ⟨q8, q9⟩ := q2 gg (by rw [eg]; simp)
      obtain ⟨e2, e3⟩ := hd 15 (by simp [depsN])
      obtain ⟨e4, _⟩ := hd 3 (by simp [depsN])
      have e2 : a.eval (.tmp 53) = v 15 := e2 (by decide)
      have e4 : a.eval (.tmp 41) = v 3 := e4 (by decide)
      rw [e1] at ow
      have hsz' : ∀ (b i : Nat) (u : Value), (w.setCell ⟨b, i, none⟩ u).heap.size = w.heap.size := fun b i u => by simp [World.setCell]
      refine st_store22 (b := g0) (f := mV x) (e2.trans e3) (e4.trans e1) hrow (hK undef [g0, gg] _ trivial ⟨gg, cap, rfl, hrow.set 0 _, ?_⟩ (hbw.setCell (by exact q6) _) (Nat.le_of_eq (hsz' _ _ _).symm) (fun b hb => ?_) (fun b hb hne => Below.heap_setCell _ _ _ _ (by show b ≠ g0; exact fun h => hne 19 (by simp [eatsN]) (by rw [er, h]; simp))))
      · obtain ⟨cap', e', h2'⟩ := OwnR.keep (w' := w.setCell ⟨g0, 0, none⟩ (.slice (some ⟨gg, 0, none⟩) vn cap)) ⟨cap, rfl, ow⟩ (Below.heap_setCell _ _ _ _ (by exact hgn))
        exact h2'
      · simp at hb
        rw [hsz']
        rcases hb with rfl | rfl
        · exact ⟨.inl ⟨19, by simp [eatsN], by rw [er]; simp⟩, q7⟩
        · exact ⟨.inl ⟨3, by simp [eatsN], by rw [eg]; simp⟩, q9⟩
    · obtain ⟨ty, pos, af, e⟩ := o17; rw [ho] at e; obtain rfl := Option.some.inj e
      exact st_field0 ((hs 6 (by decide)).trans h6) (hK _ [] _ rfl rfl hbw (Nat.le_refl _) (fun b hb => by simp at hb) (fun b hb _ => rfl))
    · obtain ⟨ty, pos, af, e⟩ := o18; rw [ho] at e; obtain rfl := Option.some.inj e
      obtain ⟨⟨gg, eg, cap, e1, ow⟩, q2⟩ := hr 14 (.inl (by simp [eatsN]))
      obtain ⟨⟨er, hrow⟩, q5⟩ := hr 20 (.inl (by simp [eatsN]))
      have hgg := hdj 14 20 gg (.inl (by simp [eatsN])) (.inl (by simp [eatsN])) (by omega) (by rw [eg]; simp)
      rw [er] at hgg
      have hgn : gg ≠ g1 := fun h => hgg (by rw [h]; simp)
      obtain ⟨q6, q7⟩ := q5 g1 (by rw [er]; simp)
      obtain ⟨q8, q9⟩ := q2 gg (by rw [eg]; simp)
      obtain ⟨e2, e3⟩ := hd 17 (by simp [depsN])
      obtain ⟨e4, _⟩ := hd 14 (by simp [depsN])
      have e2 : a.eval (.tmp 54) = v 17 := e2 (by decide)
      have e4 : a.eval (.tmp 52) = v 14 := e4 (by decide)
      rw [e1] at ow
      have hsz' : ∀ (b i : Nat) (u : Value), (w.setCell ⟨b, i, none⟩ u).heap.size = w.heap.size := fun b i u => by simp [World.setCell]
      refine st_store22 (b := g1) (f := mV x) (e2.trans e3) (e4.trans e1) hrow (hK undef [g1, gg] _ trivial ⟨gg, cap, rfl, hrow.set 0 _, ?_⟩ (hbw.setCell (by exact q6) _) (Nat.le_of_eq (hsz' _ _ _).symm) (fun b hb => ?_) (fun b hb hne => Below.heap_setCell _ _ _ _ (by show b ≠ g1; exact fun h => hne 20 (by simp [eatsN]) (by rw [er, h]; simp))))
      · obtain ⟨cap', e', h2'⟩ := OwnR.keep (w' := w.setCell ⟨g1, 0, none⟩ (.slice (some ⟨gg, 0, none⟩) (vn + 1) cap)) ⟨cap, rfl, ow⟩ (Below.heap_setCell _ _ _ _ (by exact hgn))
        exact h2'
      · simp at hb
        rw [hsz']
        rcases hb with rfl | rfl
        · exact ⟨.inl ⟨20, by simp [eatsN], by rw [er]; simp⟩, q7⟩
        · exact ⟨.inl ⟨14, by simp [eatsN], by rw [eg]; simp⟩, q9⟩
  · intro u g w hS hR hD hbw hWw
    obtain ⟨⟨gv, cap, e1, hrow, how⟩, _⟩ := hR 16 (by omega) (fun e he h => by rcases lt19 he with rfl | rfl | rfl | rfl | rfl | rfl | rfl | rfl | rfl | rfl | rfl | rfl | rfl | rfl | rfl | rfl | rfl | rfl | rfl <;> simp [eatsN] at h)
    obtain ⟨⟨gt, cap2, e2, hrow2, how2⟩, _⟩ := hR 18 (by omega) (fun e he h => by rcases lt19 he with rfl | rfl | rfl | rfl | rfl | rfl | rfl | rfl | rfl | rfl | rfl | rfl | rfl | rfl | rfl | rfl | rfl | rfl | rfl <;> simp [eatsN] at h)
    have hdd := fun b => hD 16 18 b (by omega) (by omega) (by omega) (fun e he h => by rcases lt19 he with rfl | rfl | rfl | rfl | rfl | rfl | rfl | rfl | rfl | rfl | rfl | rfl | rfl | rfl | rfl | rfl | rfl | rfl | rfl <;> simp [eatsN] at h) (fun e he h => by rcases lt19 he with rfl | rfl | rfl | rfl | rfl | rfl | rfl | rfl | rfl | rfl | rfl | rfl | rfl | rfl | rfl | rfl | rfl | rfl | rfl <;> simp [eatsN] at h)
    rw [e1, e2] at hdd
    have d1 := hdd gv (by simp)
    have d2 := hdd g0 (by simp)
    simp at d1 d2
    refine hend u gv cap gt cap2 w hrow how hrow2 how2 d1.2 ?_ d1.1 (fun h => d2.2 h.symm) ?_ hbw
    · intro h
      subst h
      obtain ⟨cs, hc, _⟩ := hrow
      rcases how.2 with ⟨e3, _⟩ | ⟨g3, cap3, cur, e3, _, h3, _⟩
      · cases e3
      · injection e3 with e4
        injection e4 with e4
        injection e4 with e4
        subst e4
        rw [hc] at h3
        cases h3
    · intro h
      subst h
      obtain ⟨cs, hc, _⟩ := hrow2
      rcases how2.2 with ⟨e3, _⟩ | ⟨g3, cap3, cur, e3, _, h3, _⟩
      · cases e3
      · injection e3 with e4
        injection e4 with e4
        injection e4 with e4
        subst e4
        rw [hc] at h3
        cases h3
end Go.Proofs.Ytddbplgcglgloaa
