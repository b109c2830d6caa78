/- 'm.Env, m.Sys = []Command{{Guard: guard}}, []Command{{Guard: guard}}' in a region that draws its order. -/
import Derived.Test.YtohegmnfmomjaaaCForms
import Derived.Test.YtohegmnfmomjaaaMRes
namespace Go.Proofs.Ytohegmnfmomjaaa
open Go.RowKit Ex
set_option linter.unusedSimpArgs false
set_option linter.unusedVariables false

def dstG : Nat → Nat
  | 0 => 32
  | 1 => 33
  | 2 => 34
  | 3 => 35
  | 4 => 36
  | 5 => 37
  | 6 => 38
  | 7 => 1007
  | 8 => 39
  | 9 => 1009
  | k + 10 => 1010 + k
def depsG : Nat → List Nat
  | 1 => [0]
  | 2 => [1]
  | 4 => [3]
  | 5 => [4]
  | 7 => [6, 2]
  | 9 => [8, 5, 7]
  | _ => []
def eatsG : Nat → List Nat
  | 7 => [2, 10]
  | 9 => [5, 7]
  | _ => []
def readsG : Nat → List Nat
  | 0 => [11]
  | 3 => [11]
  | _ => []
def SG (nb : Nat) (op nn : Int) (A : Option Addr) (len cap : Nat) : Nat → Value → Prop
  | 0, v => v = .agg #[.int .i64 op, .int .i64 nn, .slice A len cap]
  | 1, v => v = .agg #[.int .i64 op, .int .i64 nn, .slice A len cap, .slice none 0 0]
  | 3, v => v = .agg #[.int .i64 op, .int .i64 nn, .slice A len cap]
  | 4, v => v = .agg #[.int .i64 op, .int .i64 nn, .slice A len cap, .slice none 0 0]
  | 6, v => v = .pointer (some ⟨nb, 7, none⟩)
  | 8, v => v = .pointer (some ⟨nb, 8, none⟩)
  | _, _ => True
def RG (nb eb : Nat) (x : M8) (op nn : Int) (A : Option Addr) (len cap : Nat) : Nat → Value → World → List Nat → Prop
  | 2, v, w, gi => ∃ g, gi = [g] ∧ v = .slice (some ⟨g, 0, none⟩) 1 1 ∧ w.heap[g]? = some (.cells #[.int .i64 op, .int .i64 nn, .slice A len cap, .slice none 0 0] 31 (0, 0))
  | 5, v, w, gi => ∃ g, gi = [g] ∧ v = .slice (some ⟨g, 0, none⟩) 1 1 ∧ w.heap[g]? = some (.cells #[.int .i64 op, .int .i64 nn, .slice A len cap, .slice none 0 0] 31 (0, 0))
  | 7, _, w, gi => ∃ ga, gi = [nb, ga] ∧ w.rowIs nb 28 12 (fun i => if i = 7 then .slice (some ⟨ga, 0, none⟩) 1 1 else mV x i) ∧ w.heap[ga]? = some (.cells #[.int .i64 op, .int .i64 nn, .slice A len cap, .slice none 0 0] 31 (0, 0))
  | 9, _, w, gi => ∃ ga gb, gi = [nb, ga, gb] ∧ w.rowIs nb 28 12 (fun i => if i = 8 then .slice (some ⟨gb, 0, none⟩) 1 1 else if i = 7 then .slice (some ⟨ga, 0, none⟩) 1 1 else mV x i) ∧ w.heap[ga]? = some (.cells #[.int .i64 op, .int .i64 nn, .slice A len cap, .slice none 0 0] 31 (0, 0)) ∧ w.heap[gb]? = some (.cells #[.int .i64 op, .int .i64 nn, .slice A len cap, .slice none 0 0] 31 (0, 0))
  | 10, _, w, gi => gi = [nb] ∧ w.rowIs nb 28 12 (mV x)
  | 11, _, w, gi => gi = [eb] ∧ Box3 w eb op nn A len cap
  | _, _, _, gi => gi = []
theorem lt10 {i : Nat} (h : i < 10) : i = 0 ∨ i = 1 ∨ i = 2 ∨ i = 3 ∨ i = 4 ∨ i = 5 ∨ i = 6 ∨ i = 7 ∨ i = 8 ∨ i = 9 := by omega
theorem lt12 {i : Nat} (h : i < 12) : i = 0 ∨ i = 1 ∨ i = 2 ∨ i = 3 ∨ i = 4 ∨ i = 5 ∨ i = 6 ∨ i = 7 ∨ i = 8 ∨ i = 9 ∨ i = 10 ∨ i = 11 := by omega
set_option maxRecDepth 100000
section
variable {a : Act} {w : World} {K : Act → World → Prop} {Q : Exit → Act → World → Prop} {d ty : Nat} {pos : String} {af : Array Edge} {op nn : Int} {A : Option Addr} {len cap : Nat}
theorem st_load25 {t b : Nat} (he : a.eval (.tmp t) = .pointer (some ⟨b, 0, none⟩)) (hc : Box3 w b op nn A len cap) (hK : K (a.put (some d) (.agg #[.int .i64 op, .int .i64 nn, .slice A len cap])) w) : Oper.wp Try.prog ⟨some d, .load 25 (.tmp t), ty, pos, af, none⟩ a w K Q := by
  have he' : a.tmps[t]?.getD undef = .pointer (some ⟨b, 0, none⟩) := by simpa [Act.eval] using he
  obtain ⟨c0, c1, c2⟩ := hc
  refine wp_val ?_ hK
  simp only [execOp]
  go_simp
theorem st_build39 {t : Nat} (he : a.eval (.tmp t) = .agg #[.int .i64 op, .int .i64 nn, .slice A len cap]) (hK : K (a.put (some d) (.agg #[.int .i64 op, .int .i64 nn, .slice A len cap, .slice none 0 0])) w) : Oper.wp Try.prog ⟨some d, .build 31 #[(0, .tmp t)], ty, pos, af, none⟩ a w K Q := by
  have he' : a.tmps[t]?.getD undef = .agg #[.int .i64 op, .int .i64 nn, .slice A len cap] := by simpa [Act.eval] using he
  refine wp_val ?_ hK
  simp only [execOp]
  go_simp
theorem st_one39 {t : Nat} (he : a.eval (.tmp t) = .agg #[.int .i64 op, .int .i64 nn, .slice A len cap, .slice none 0 0]) (hK : K (a.put (some d) (.slice (some ⟨w.heap.size, 0, none⟩) 1 1)) (w.alloc (.cells #[.int .i64 op, .int .i64 nn, .slice A len cap, .slice none 0 0] 31))) : Oper.wp Try.prog ⟨some d, .buildSlice 26 1 #[(0, .tmp t)], ty, pos, af, none⟩ a w K Q := by
  have he' : a.tmps[t]?.getD undef = .agg #[.int .i64 op, .int .i64 nn, .slice A len cap, .slice none 0 0] := by simpa [Act.eval] using he
  refine wp_val ?_ hK
  simp only [execOp]
  go_simp
theorem st_field3 {t b : Nat} (he : a.eval (.tmp t) = .pointer (some ⟨b, 0, none⟩)) (hK : K (a.put (some d) (.pointer (some ⟨b, 7, none⟩))) w) : Oper.wp Try.prog ⟨some d, .fieldAddr 28 (.tmp t) 3, ty, pos, af, none⟩ a w K Q := by
  have he' : a.tmps[t]?.getD undef = .pointer (some ⟨b, 0, none⟩) := by simpa [Act.eval] using he
  refine wp_val ?_ hK
  simp only [execOp]
  go_simp
theorem st_field4 {t b : Nat} (he : a.eval (.tmp t) = .pointer (some ⟨b, 0, none⟩)) (hK : K (a.put (some d) (.pointer (some ⟨b, 8, none⟩))) w) : Oper.wp Try.prog ⟨some d, .fieldAddr 28 (.tmp t) 4, ty, pos, af, none⟩ a w K Q := by
  have he' : a.tmps[t]?.getD undef = .pointer (some ⟨b, 0, none⟩) := by simpa [Act.eval] using he
  refine wp_val ?_ hK
  simp only [execOp]
  go_simp
theorem st_store26 {t s b i : Nat} {A : Option Addr} {n c : Nat} {f : Nat → Value} (he : a.eval (.tmp t) = .pointer (some ⟨b, i, none⟩)) (hs : a.eval (.tmp s) = .slice A n c) (hr : w.rowIs b 28 12 f) (hi : i < 12) (hK : K a (w.setCell ⟨b, i, none⟩ (.slice A n c))) : Oper.wp Try.prog ⟨none, .store 26 (.tmp t) (.tmp s), ty, pos, af, none⟩ a w K Q := by
  have he' : a.tmps[t]?.getD undef = .pointer (some ⟨b, i, none⟩) := by simpa [Act.eval] using he
  have hs' : a.tmps[s]?.getD undef = .slice A n c := by simpa [Act.eval] using hs
  have c0 := hr.cell (i := i) hi
  have z0 := hr.frozen i
  unfold Oper.wp
  go_simp
  exact hK
end
set_option maxRecDepth 100000 in
set_option maxHeartbeats 2000000 in
theorem guards_region {id nb eb base : Nat} {ops : Array Oper} {Q : Exit → Act → World → Prop} {a0 : Act} {W : World} {x : M8} {op nn : Int} {A : Option Addr} {len cap : Nat}
    (hm : Try.prog.follows .mixedOrders = true) (hsz : ops.size = 10) (hac : ownAc ops = true) (hdep : ownDeps ops depsG = true)
    (o0 : ∃ ty pos af, ops[0]? = some ⟨some 32, .load 25 (.tmp 5), ty, pos, af, none⟩)
    (o1 : ∃ ty pos af, ops[1]? = some ⟨some 33, .build 31 #[(0, .tmp 32)], ty, pos, af, none⟩)
    (o2 : ∃ ty pos af, ops[2]? = some ⟨some 34, .buildSlice 26 1 #[(0, .tmp 33)], ty, pos, af, none⟩)
    (o3 : ∃ ty pos af, ops[3]? = some ⟨some 35, .load 25 (.tmp 5), ty, pos, af, none⟩)
    (o4 : ∃ ty pos af, ops[4]? = some ⟨some 36, .build 31 #[(0, .tmp 35)], ty, pos, af, none⟩)
    (o5 : ∃ ty pos af, ops[5]? = some ⟨some 37, .buildSlice 26 1 #[(0, .tmp 36)], ty, pos, af, none⟩)
    (o6 : ∃ ty pos af, ops[6]? = some ⟨some 38, .fieldAddr 28 (.tmp 4) 3, ty, pos, af, none⟩)
    (o7 : ∃ ty pos af, ops[7]? = some ⟨none, .store 26 (.tmp 38) (.tmp 34), ty, pos, af, none⟩)
    (o8 : ∃ ty pos af, ops[8]? = some ⟨some 39, .fieldAddr 28 (.tmp 4) 4, ty, pos, af, none⟩)
    (o9 : ∃ ty pos af, ops[9]? = some ⟨none, .store 26 (.tmp 39) (.tmp 37), ty, pos, af, none⟩)
    (hts : 40 ≤ a0.tmps.size) (h4 : a0.eval (.tmp 4) = .pointer (some ⟨nb, 0, none⟩)) (h5 : a0.eval (.tmp 5) = .pointer (some ⟨eb, 0, none⟩))
    (hbox : Box3 W eb op nn A len cap) (hrow : W.rowIs nb 28 12 (mV x)) (hne : eb ≠ nb) (heb : base ≤ eb ∧ eb < W.heap.size) (hnb : base ≤ nb ∧ nb < W.heap.size) (hbase : base ≤ W.heap.size)
    (hend : ∀ (u : Nat → Value) (ga gb : Nat) (w : World), w.rowIs nb 28 12 (fun i => if i = 8 then .slice (some ⟨gb, 0, none⟩) 1 1 else if i = 7 then .slice (some ⟨ga, 0, none⟩) 1 1 else mV x i) → w.heap[ga]? = some (.cells #[.int .i64 op, .int .i64 nn, .slice A len cap, .slice none 0 0] 31 (0, 0)) → w.heap[gb]? = some (.cells #[.int .i64 op, .int .i64 nn, .slice A len cap, .slice none 0 0] 31 (0, 0)) → Box3 w eb op nn A len cap → Below base W w → Q .normal (sel [32, 33, 34, 35, 36, 37, 38, 39] a0 u) w) :
    (Code.region id ops true).wp Try.prog Q a0 W := by
  refine region_res (n := 10) (N := 12) (base := base) [32, 33, 34, 35, 36, 37, 38, 39] dstG depsG eatsG readsG (fun j => if j = 10 then [nb] else [eb]) (SG nb op nn A len cap) (RG nb eb x op nn A len cap) hm hsz (by omega) hac hdep hbase ?_ ?_ ?_ ?_ ?_ ?_ ?_ ?_ ?_ ?_ ?_
  · intro i j hi h
    rcases lt10 hi with rfl | rfl | rfl | rfl | rfl | rfl | rfl | rfl | rfl | rfl <;> simp [eatsG, readsG, depsG] at h ⊢ <;> omega
  · intro i i' j hi hi' h h'
    rcases lt10 hi with rfl | rfl | rfl | rfl | rfl | rfl | rfl | rfl | rfl | rfl <;> simp [eatsG] at h <;> rcases lt10 hi' with rfl | rfl | rfl | rfl | rfl | rfl | rfl | rfl | rfl | rfl <;> simp [eatsG] at h' <;> omega
  · intro i e j hi he h h'
    rcases lt10 hi with rfl | rfl | rfl | rfl | rfl | rfl | rfl | rfl | rfl | rfl <;> simp [readsG] at h <;> rcases lt10 he with rfl | rfl | rfl | rfl | rfl | rfl | rfl | rfl | rfl | rfl <;> simp [eatsG] at h' <;> omega
  · intro i j hi h
    rcases lt10 hi with rfl | rfl | rfl | rfl | rfl | rfl | rfl | rfl | rfl | rfl <;> simp [depsG] at h <;> omega
  · intro i o ho
    have hi : i < 10 := by rw [← hsz]; exact (Array.getElem?_eq_some_iff.1 ho).1
    rcases lt10 hi with rfl | rfl | rfl | rfl | rfl | rfl | rfl | rfl | rfl | rfl
    · obtain ⟨ty, pos, af, e⟩ := o0; rw [ho] at e; obtain rfl := Option.some.inj e; exact .inl ⟨rfl, by decide, by show 32 < _; omega⟩
    · obtain ⟨ty, pos, af, e⟩ := o1; rw [ho] at e; obtain rfl := Option.some.inj e; exact .inl ⟨rfl, by decide, by show 33 < _; omega⟩
    · obtain ⟨ty, pos, af, e⟩ := o2; rw [ho] at e; obtain rfl := Option.some.inj e; exact .inl ⟨rfl, by decide, by show 34 < _; omega⟩
    · obtain ⟨ty, pos, af, e⟩ := o3; rw [ho] at e; obtain rfl := Option.some.inj e; exact .inl ⟨rfl, by decide, by show 35 < _; omega⟩
    · obtain ⟨ty, pos, af, e⟩ := o4; rw [ho] at e; obtain rfl := Option.some.inj e; exact .inl ⟨rfl, by decide, by show 36 < _; omega⟩
    · obtain ⟨ty, pos, af, e⟩ := o5; rw [ho] at e; obtain rfl := Option.some.inj e; exact .inl ⟨rfl, by decide, by show 37 < _; omega⟩
    · obtain ⟨ty, pos, af, e⟩ := o6; rw [ho] at e; obtain rfl := Option.some.inj e; exact .inl ⟨rfl, by decide, by show 38 < _; omega⟩
    · obtain ⟨ty, pos, af, e⟩ := o7; rw [ho] at e; obtain rfl := Option.some.inj e; exact .inr ⟨rfl, by decide⟩
    · obtain ⟨ty, pos, af, e⟩ := o8; rw [ho] at e; obtain rfl := Option.some.inj e; exact .inl ⟨rfl, by decide, by show 39 < _; omega⟩
    · obtain ⟨ty, pos, af, e⟩ := o9; rw [ho] at e; obtain rfl := Option.some.inj e; exact .inr ⟨rfl, by decide⟩
  · intro i j hi hj h
    have hd : ∀ k, k < 12 → dstG k = [32, 33, 34, 35, 36, 37, 38, 1007, 39, 1009, 1010, 1011].getD k 0 := fun k hk => by
      rcases lt12 hk with rfl | rfl | rfl | rfl | rfl | rfl | rfl | rfl | rfl | rfl | rfl | rfl <;> rfl
    rw [hd i hi, hd j hj] at h
    have hall : ∀ i, i < 12 → ∀ j, j < 12 → [32, 33, 34, 35, 36, 37, 38, 1007, 39, 1009, 1010, 1011].getD i 0 = [32, 33, 34, 35, 36, 37, 38, 1007, 39, 1009, 1010, 1011].getD j 0 → i = j := by decide +kernel
    exact hall i hi j hj h
  · intro j y w w' g hj hr hbw hbw' hk
    rcases lt12 hj with rfl | rfl | rfl | rfl | rfl | rfl | rfl | rfl | rfl | rfl | rfl | rfl
    · exact hr
    · exact hr
    · obtain ⟨g1', rfl, h, h'⟩ := hr; exact ⟨g1', rfl, h, (hk _ (by simp)).trans h'⟩
    · exact hr
    · exact hr
    · obtain ⟨g1', rfl, h, h'⟩ := hr; exact ⟨g1', rfl, h, (hk _ (by simp)).trans h'⟩
    · exact hr
    · obtain ⟨ga, rfl, h, h'⟩ := hr; exact ⟨ga, rfl, h.of_block (hk _ (by simp)), (hk _ (by simp)).trans h'⟩
    · exact hr
    · obtain ⟨ga, gb, rfl, h, h', h''⟩ := hr; exact ⟨ga, gb, rfl, h.of_block (hk _ (by simp)), (hk _ (by simp)).trans h', (hk _ (by simp)).trans h''⟩
    · obtain ⟨rfl, h⟩ := hr; exact ⟨rfl, h.of_block (hk _ (by simp))⟩
    · obtain ⟨rfl, h1, h2, h3⟩ := hr; exact ⟨rfl, (World.cell?_of_block (hk _ (by simp))).trans h1, (World.cell?_of_block (hk _ (by simp))).trans h2, (World.cell?_of_block (hk _ (by simp))).trans h3⟩
  · intro j y hj hj2
    have h : j = 10 ∨ j = 11 := by omega
    rcases h with rfl | rfl
    · exact ⟨trivial, ⟨rfl, hrow⟩, fun b hb => by simp at hb; subst hb; exact hnb⟩
    · exact ⟨trivial, ⟨rfl, hbox⟩, fun b hb => by simp at hb; subst hb; exact heb⟩
  · intro i j b hi hi2 hj hj2 hne2 hb hb'
    have h : i = 10 ∨ i = 11 := by omega
    have h' : j = 10 ∨ j = 11 := by omega
    rcases h with rfl | rfl <;> rcases h' with rfl | rfl <;> simp at hb hb' <;> omega
  · intro i o a w v g K hi ho hs hd hr hdj hbw hWw hK
    have hz : base ≤ w.heap.size := by omega
    have hsz' : ∀ (b i : Nat) (u : Value), (w.setCell ⟨b, i, none⟩ u).heap.size = w.heap.size := fun b i u => by simp [World.setCell]
    rcases lt10 hi with rfl | rfl | rfl | rfl | rfl | rfl | rfl | rfl | rfl | rfl
    · obtain ⟨ty, pos, af, e⟩ := o0; rw [ho] at e; obtain rfl := Option.some.inj e
      obtain ⟨⟨_, hbx⟩, _⟩ := hr 11 (.inr (by simp [readsG]))
      exact st_load25 ((hs 5 (by decide)).trans h5) hbx (hK _ [] _ rfl rfl hbw (Nat.le_refl _) (fun b hb => by simp at hb) (fun b hb _ => rfl))
    · obtain ⟨ty, pos, af, e⟩ := o1; rw [ho] at e; obtain rfl := Option.some.inj e
      obtain ⟨e2, e3⟩ := hd 0 (by simp [depsG])
      have e2 : a.eval (.tmp 32) = v 0 := e2 (by decide)
      exact st_build39 (e2.trans e3) (hK _ [] _ rfl rfl hbw (Nat.le_refl _) (fun b hb => by simp at hb) (fun b hb _ => rfl))
    · obtain ⟨ty, pos, af, e⟩ := o2; rw [ho] at e; obtain rfl := Option.some.inj e
      obtain ⟨e2, e3⟩ := hd 1 (by simp [depsG])
      have e2 : a.eval (.tmp 33) = v 1 := e2 (by decide)
      exact st_one39 (e2.trans e3) (hK _ [w.heap.size] _ trivial ⟨_, rfl, rfl, new_at rfl⟩ (hbw.alloc hz _) (by simp) (fun b hb => by simp at hb; subst hb; exact ⟨.inr (Nat.le_refl _), by simp⟩) (fun b hb _ => Below.heap_alloc _ _ _ hb))
    · obtain ⟨ty, pos, af, e⟩ := o3; rw [ho] at e; obtain rfl := Option.some.inj e
      obtain ⟨⟨_, hbx⟩, _⟩ := hr 11 (.inr (by simp [readsG]))
      exact st_load25 ((hs 5 (by decide)).trans h5) hbx (hK _ [] _ rfl rfl hbw (Nat.le_refl _) (fun b hb => by simp at hb) (fun b hb _ => rfl))
    · obtain ⟨ty, pos, af, e⟩ := o4; rw [ho] at e; obtain rfl := Option.some.inj e
      obtain ⟨e2, e3⟩ := hd 3 (by simp [depsG])
      have e2 : a.eval (.tmp 35) = v 3 := e2 (by decide)
      exact st_build39 (e2.trans e3) (hK _ [] _ rfl rfl hbw (Nat.le_refl _) (fun b hb => by simp at hb) (fun b hb _ => rfl))
    · obtain ⟨ty, pos, af, e⟩ := o5; rw [ho] at e; obtain rfl := Option.some.inj e
      obtain ⟨e2, e3⟩ := hd 4 (by simp [depsG])
      have e2 : a.eval (.tmp 36) = v 4 := e2 (by decide)
      exact st_one39 (e2.trans e3) (hK _ [w.heap.size] _ trivial ⟨_, rfl, rfl, new_at rfl⟩ (hbw.alloc hz _) (by simp) (fun b hb => by simp at hb; subst hb; exact ⟨.inr (Nat.le_refl _), by simp⟩) (fun b hb _ => Below.heap_alloc _ _ _ hb))
    · obtain ⟨ty, pos, af, e⟩ := o6; rw [ho] at e; obtain rfl := Option.some.inj e
      exact st_field3 ((hs 4 (by decide)).trans h4) (hK _ [] _ rfl rfl hbw (Nat.le_refl _) (fun b hb => by simp at hb) (fun b hb _ => rfl))
    · obtain ⟨ty, pos, af, e⟩ := o7; rw [ho] at e; obtain rfl := Option.some.inj e
      obtain ⟨⟨ga, eg, e1, hga⟩, q2⟩ := hr 2 (.inl (by simp [eatsG]))
      obtain ⟨⟨er, hrw⟩, q5⟩ := hr 10 (.inl (by simp [eatsG]))
      have hgg := hdj 2 10 ga (.inl (by simp [eatsG])) (.inl (by simp [eatsG])) (by omega) (by rw [eg]; simp)
      rw [er] at hgg
      have hgn : ga ≠ nb := fun h => hgg (by rw [h]; simp)
      obtain ⟨q6, q7⟩ := q5 nb (by rw [er]; simp)
      obtain ⟨q8, q9⟩ := q2 ga (by rw [eg]; simp)
      obtain ⟨e2, e3⟩ := hd 6 (by simp [depsG])
      obtain ⟨e4, _⟩ := hd 2 (by simp [depsG])
      have e2 : a.eval (.tmp 38) = v 6 := e2 (by decide)
      have e4 : a.eval (.tmp 34) = v 2 := e4 (by decide)
      refine st_store26 (b := nb) (i := 7) (f := mV x) (e2.trans e3) (e4.trans e1) hrw (by omega) (hK undef [nb, ga] _ trivial ⟨ga, rfl, hrw.set 7 _, (Below.heap_setCell _ _ _ _ (by exact hgn)).trans hga⟩ (hbw.setCell (by exact q6) _) (Nat.le_of_eq (hsz' _ _ _).symm) (fun b hb => ?_) (fun b hb hne => Below.heap_setCell _ _ _ _ (by show b ≠ nb; exact fun h => hne 10 (by simp [eatsG]) (by rw [er, h]; simp))))
      simp at hb
      rw [hsz']
      rcases hb with rfl | rfl
      · exact ⟨.inl ⟨10, by simp [eatsG], by rw [er]; simp⟩, q7⟩
      · exact ⟨.inl ⟨2, by simp [eatsG], by rw [eg]; simp⟩, q9⟩
    · obtain ⟨ty, pos, af, e⟩ := o8; rw [ho] at e; obtain rfl := Option.some.inj e
      exact st_field4 ((hs 4 (by decide)).trans h4) (hK _ [] _ rfl rfl hbw (Nat.le_refl _) (fun b hb => by simp at hb) (fun b hb _ => rfl))
    · obtain ⟨ty, pos, af, e⟩ := o9; rw [ho] at e; obtain rfl := Option.some.inj e
      obtain ⟨⟨gb, eg, e1, hgb⟩, q2⟩ := hr 5 (.inl (by simp [eatsG]))
      obtain ⟨⟨ga, er, hrw, hga⟩, q5⟩ := hr 7 (.inl (by simp [eatsG]))
      have hgg := hdj 5 7 gb (.inl (by simp [eatsG])) (.inl (by simp [eatsG])) (by omega) (by rw [eg]; simp)
      rw [er] at hgg
      have hgn : gb ≠ nb := fun h => hgg (by rw [h]; simp)
      obtain ⟨q6, q7⟩ := q5 nb (by rw [er]; simp)
      obtain ⟨q10, q11⟩ := q5 ga (by rw [er]; simp)
      obtain ⟨q8, q9⟩ := q2 gb (by rw [eg]; simp)
      have hgan : ga ≠ nb := fun h => by
        subst h
        obtain ⟨cs, hc, _⟩ := hrw
        rw [hc] at hga
        cases hga
      obtain ⟨e2, e3⟩ := hd 8 (by simp [depsG])
      obtain ⟨e4, _⟩ := hd 5 (by simp [depsG])
      have e2 : a.eval (.tmp 39) = v 8 := e2 (by decide)
      have e4 : a.eval (.tmp 37) = v 5 := e4 (by decide)
      refine st_store26 (b := nb) (i := 8) (e2.trans e3) (e4.trans e1) hrw (by omega) (hK undef [nb, ga, gb] _ trivial ⟨ga, gb, rfl, hrw.set 8 _, (Below.heap_setCell _ _ _ _ (by exact hgan)).trans hga, (Below.heap_setCell _ _ _ _ (by exact hgn)).trans hgb⟩ (hbw.setCell (by exact q6) _) (Nat.le_of_eq (hsz' _ _ _).symm) (fun b hb => ?_) (fun b hb hne => Below.heap_setCell _ _ _ _ (by show b ≠ nb; exact fun h => hne 7 (by simp [eatsG]) (by rw [er, h]; simp))))
      simp at hb
      rw [hsz']
      rcases hb with rfl | rfl | rfl
      · exact ⟨.inl ⟨7, by simp [eatsG], by rw [er]; simp⟩, q7⟩
      · exact ⟨.inl ⟨7, by simp [eatsG], by rw [er]; simp⟩, q11⟩
      · exact ⟨.inl ⟨5, by simp [eatsG], by rw [eg]; simp⟩, q9⟩
  · intro u g w hS hR hD hbw hWw
    obtain ⟨⟨ga, gb, e1, hrow, hga, hgb⟩, _⟩ := hR 9 (by omega) (fun e he h => by rcases lt10 he with rfl | rfl | rfl | rfl | rfl | rfl | rfl | rfl | rfl | rfl <;> simp [eatsG] at h)
    exact hend u ga gb w hrow hga hgb (hR 11 (by omega) (fun e he h => by rcases lt10 he with rfl | rfl | rfl | rfl | rfl | rfl | rfl | rfl | rfl | rfl <;> simp [eatsG] at h)).1.2 hbw
end Go.Proofs.Ytohegmnfmomjaaa
