/- Not, and, or, then, if: the values, from those of the parts. Steps of a drawn region: a load, a slice laid, a call. What the slots of a drawn region hold: a value, a row of children, an expression; laid children. -/
import Derived.Test.YtkjclofkfmkbdaaEInv
namespace Go.Proofs.Ytkjclofkfmkbdaa
open Go.RowKit Ex
set_option linter.unusedSimpArgs false
set_option linter.unusedVariables false

def notT (a : T) : T := .mk 5 0 [a]
def binT (op : Int) (a b : T) : T := .mk op 0 [a, b]
def iteT (a b : T) : T := .mk 15 0 [a, b, a]
section
variable {l : List Dom.V} {a b : T} {m k : Int}
theorem bool_val {t : T} (hs : sortE l t = (1, 0)) (h1 : 0 ≤ m) (h2 : m < Dom.totL l) (h3 : 0 ≤ k) (h4 : k < Dom.totL l) : ∃ v, vT (Dom.valsL l m) (Dom.valsL l k) t = v ∧ valE l t m k = valP v ∧ (v = none ∨ v = some 0 ∨ v = some 1) := by
  have hs2 : (sortE l t).2 = 0 := by rw [hs]
  refine ⟨_, rfl, val_st hs2 h1 h2 h3 h4, ?_⟩
  have hmay := sort_may hs2
  have hty := sort_ty hs2
  have hf := fine_gen l (Dom.valsL l m) (Dom.valsL l k) (vals_fine l m (may_each hmay.1)) (vals_fine l k (may_each hmay.1)) t (may_sound hmay.2) (by rw [← hty]; exact hs2)
  rw [← hty, hs] at hf
  cases hv : vT (Dom.valsL l m) (Dom.valsL l k) t with
  | none => simp
  | some x =>
    rcases (hf.2 x hv).1 rfl with rfl | rfl <;> simp
theorem not_sort (ha : sortE l a = (1, 0)) (hm : mayE (notT a) = 0) : sortE l (notT a) = (1, 0) := by
  have ha2 : (sortE l a).2 = 0 := by rw [ha]
  have h1 := sort_may ha2
  have h2 := sort_ty ha2
  unfold sortE
  rw [if_pos h1.1, if_pos hm]
  unfold notT
  rw [tyT, tyK, tyK, ← h2, ha]
  simp [tyN]
theorem bin_sort {op : Int} (ho : op = 6 ∨ op = 7 ∨ op = 8) (ha : sortE l a = (1, 0)) (hb : sortE l b = (1, 0)) (hm : mayE (binT op a b) = 0) : sortE l (binT op a b) = (1, 0) := by
  have ha2 : (sortE l a).2 = 0 := by rw [ha]
  have hb2 : (sortE l b).2 = 0 := by rw [hb]
  have h1 := sort_may ha2
  have h2 := sort_ty ha2
  have h3 := sort_ty hb2
  unfold sortE
  rw [if_pos h1.1, if_pos hm]
  unfold binT
  rw [tyT, tyK, tyK, tyK, ← h2, ← h3, ha, hb]
  rcases ho with rfl | rfl | rfl <;> simp [tyN]
theorem ite_sort (ha : sortE l a = (1, 0)) (hb : sortE l b = (1, 0)) (hm : mayE (iteT a b) = 0) : sortE l (iteT a b) = (1, 0) := by
  have ha2 : (sortE l a).2 = 0 := by rw [ha]
  have hb2 : (sortE l b).2 = 0 := by rw [hb]
  have h1 := sort_may ha2
  have h2 := sort_ty ha2
  have h3 := sort_ty hb2
  unfold sortE
  rw [if_pos h1.1, if_pos hm]
  unfold iteT
  rw [tyT, tyK, tyK, tyK, tyK, ← h2, ← h3, ha, hb]
  simp [tyN]
variable (h1 : 0 ≤ m) (h2 : m < Dom.totL l) (h3 : 0 ≤ k) (h4 : k < Dom.totL l)
include h1 h2 h3 h4
/- all at once -/
theorem logic_val (ha : sortE l a = (1, 0)) (hb : sortE l b = (1, 0)) (hn : mayE (notT a) = 0) (h6 : mayE (binT 6 a b) = 0) (h7 : mayE (binT 7 a b) = 0) (h8 : mayE (binT 8 a b) = 0) (h15 : mayE (iteT a b) = 0) :
    (valE l a m k = (0, 6) ∧ valE l (notT a) m k = (0, 6) ∧ valE l (binT 6 a b) m k = (0, 6) ∧ valE l (binT 7 a b) m k = (0, 6) ∧ valE l (binT 8 a b) m k = (0, 6) ∧ valE l (iteT a b) m k = (0, 6)) ∨
    (valE l a m k = (0, 0) ∧ valE l (notT a) m k = (1, 0) ∧ valE l (binT 6 a b) m k = (0, 0) ∧ valE l (binT 7 a b) m k = valE l b m k ∧ valE l (binT 8 a b) m k = (1, 0) ∧ valE l (iteT a b) m k = (0, 0)) ∨
    (valE l a m k = (1, 0) ∧ valE l (notT a) m k = (0, 0) ∧ valE l (binT 6 a b) m k = valE l b m k ∧ valE l (binT 7 a b) m k = (1, 0) ∧ valE l (binT 8 a b) m k = valE l b m k ∧ valE l (iteT a b) m k = valE l b m k) := by
  obtain ⟨va, ea, pa, ca⟩ := bool_val ha h1 h2 h3 h4
  obtain ⟨vb, eb, pb, cb⟩ := bool_val hb h1 h2 h3 h4
  obtain ⟨vn, en, pn, _⟩ := bool_val (not_sort ha hn) h1 h2 h3 h4
  obtain ⟨v6, e6, p6, _⟩ := bool_val (bin_sort (.inl rfl) ha hb h6) h1 h2 h3 h4
  obtain ⟨v7, e7, p7, _⟩ := bool_val (bin_sort (.inr (.inl rfl)) ha hb h7) h1 h2 h3 h4
  obtain ⟨v8, e8, p8, _⟩ := bool_val (bin_sort (.inr (.inr rfl)) ha hb h8) h1 h2 h3 h4
  obtain ⟨v15, e15, p15, _⟩ := bool_val (ite_sort ha hb h15) h1 h2 h3 h4
  unfold notT at en
  unfold binT at e6 e7 e8
  unfold iteT at e15
  rw [vT, vK, vK, ea] at en
  rw [vT, vK, vK, vK, ea, eb] at e6 e7 e8
  rw [vT, vK, vK, vK, vK, ea, eb] at e15
  rw [pa, pb, pn, p6, p7, p8, p15, ← en, ← e6, ← e7, ← e8, ← e15]
  clear en e6 e7 e8 e15 pa pb pn p6 p7 p8 p15 ea eb
  rcases ca with rfl | rfl | rfl <;> rcases cb with rfl | rfl | rfl <;> simp [vN, vOp, vIn, valP]
end
end Go.Proofs.Ytkjclofkfmkbdaa
namespace Go.Proofs.Ytkjclofkfmkbdaa
open Go.RowKit Ex
set_option linter.unusedSimpArgs false
set_option linter.unusedVariables false

theorem wp_val {P : Program} {o : Oper} {a : Act} {w w' : World} {v : Value} {K : Act → World → Prop} {Q : Exit → Act → World → Prop} (h : (execOp a.eval o).run P w = .ok (.value v) w') (hK : K (a.put o.dst v) w') : Oper.wp P o a w K Q := by
  unfold Oper.wp
  rw [h]
  exact hK
section
variable {a : Act} {w : World} {K : Act → World → Prop} {Q : Exit → Act → World → Prop} {d ty : Nat} {pos : String} {af : Array Edge}
theorem st_load {t b : Nat} {op n : Int} {A : Option Addr} {len cap : Nat} (he : a.eval (.tmp t) = .pointer (some ⟨b, 0, none⟩)) (hc : Box3 w b op n A len cap)
    (hK : K (a.put (some d) (.agg #[.int .i64 op, .int .i64 n, .slice A len cap])) w) : Oper.wp Try.prog ⟨some d, .load 25 (.tmp t), ty, pos, af, none⟩ a w K Q := by
  obtain ⟨c0, c1, c2⟩ := hc
  refine wp_val ?_ hK
  simp only [execOp, he]
  go_simp
theorem st_build1 {t0 : Nat} {o0 n0 : Int} {A0 : Option Addr} {l0 c0 : Nat} (he0 : a.eval (.tmp t0) = .agg #[.int .i64 o0, .int .i64 n0, .slice A0 l0 c0])
    (hK : K (a.put (some d) (.slice (some ⟨w.heap.size, 0, none⟩) 1 1)) (w.alloc (.cells #[.int .i64 o0, .int .i64 n0, .slice A0 l0 c0] 25))) : Oper.wp Try.prog ⟨some d, .buildSlice 23 1 #[(0, .tmp t0)], ty, pos, af, none⟩ a w K Q := by
  have g0 : a.tmps[t0]?.getD undef = .agg #[.int .i64 o0, .int .i64 n0, .slice A0 l0 c0] := by simpa [Act.eval] using he0
  refine wp_val ?_ hK
  go_simp
theorem st_build2 {t0 t1 : Nat} {o0 n0 : Int} {A0 : Option Addr} {l0 c0 : Nat} {o1 n1 : Int} {A1 : Option Addr} {l1 c1 : Nat} (he0 : a.eval (.tmp t0) = .agg #[.int .i64 o0, .int .i64 n0, .slice A0 l0 c0]) (he1 : a.eval (.tmp t1) = .agg #[.int .i64 o1, .int .i64 n1, .slice A1 l1 c1])
    (hK : K (a.put (some d) (.slice (some ⟨w.heap.size, 0, none⟩) 2 2)) (w.alloc (.cells #[.int .i64 o0, .int .i64 n0, .slice A0 l0 c0, .int .i64 o1, .int .i64 n1, .slice A1 l1 c1] 25))) : Oper.wp Try.prog ⟨some d, .buildSlice 23 2 #[(0, .tmp t0), (1, .tmp t1)], ty, pos, af, none⟩ a w K Q := by
  have g0 : a.tmps[t0]?.getD undef = .agg #[.int .i64 o0, .int .i64 n0, .slice A0 l0 c0] := by simpa [Act.eval] using he0
  have g1 : a.tmps[t1]?.getD undef = .agg #[.int .i64 o1, .int .i64 n1, .slice A1 l1 c1] := by simpa [Act.eval] using he1
  refine wp_val ?_ hK
  go_simp
theorem st_build3 {t0 t1 t2 : Nat} {o0 n0 : Int} {A0 : Option Addr} {l0 c0 : Nat} {o1 n1 : Int} {A1 : Option Addr} {l1 c1 : Nat} {o2 n2 : Int} {A2 : Option Addr} {l2 c2 : Nat} (he0 : a.eval (.tmp t0) = .agg #[.int .i64 o0, .int .i64 n0, .slice A0 l0 c0]) (he1 : a.eval (.tmp t1) = .agg #[.int .i64 o1, .int .i64 n1, .slice A1 l1 c1]) (he2 : a.eval (.tmp t2) = .agg #[.int .i64 o2, .int .i64 n2, .slice A2 l2 c2])
    (hK : K (a.put (some d) (.slice (some ⟨w.heap.size, 0, none⟩) 3 3)) (w.alloc (.cells #[.int .i64 o0, .int .i64 n0, .slice A0 l0 c0, .int .i64 o1, .int .i64 n1, .slice A1 l1 c1, .int .i64 o2, .int .i64 n2, .slice A2 l2 c2] 25))) : Oper.wp Try.prog ⟨some d, .buildSlice 23 3 #[(0, .tmp t0), (1, .tmp t1), (2, .tmp t2)], ty, pos, af, none⟩ a w K Q := by
  have g0 : a.tmps[t0]?.getD undef = .agg #[.int .i64 o0, .int .i64 n0, .slice A0 l0 c0] := by simpa [Act.eval] using he0
  have g1 : a.tmps[t1]?.getD undef = .agg #[.int .i64 o1, .int .i64 n1, .slice A1 l1 c1] := by simpa [Act.eval] using he1
  have g2 : a.tmps[t2]?.getD undef = .agg #[.int .i64 o2, .int .i64 n2, .slice A2 l2 c2] := by simpa [Act.eval] using he2
  refine wp_val ?_ hK
  go_simp
theorem st_build5 {t0 t1 t2 t3 t4 : Nat} {o0 n0 : Int} {A0 : Option Addr} {l0 c0 : Nat} {o1 n1 : Int} {A1 : Option Addr} {l1 c1 : Nat} {o2 n2 : Int} {A2 : Option Addr} {l2 c2 : Nat} {o3 n3 : Int} {A3 : Option Addr} {l3 c3 : Nat} {o4 n4 : Int} {A4 : Option Addr} {l4 c4 : Nat} (he0 : a.eval (.tmp t0) = .agg #[.int .i64 o0, .int .i64 n0, .slice A0 l0 c0]) (he1 : a.eval (.tmp t1) = .agg #[.int .i64 o1, .int .i64 n1, .slice A1 l1 c1]) (he2 : a.eval (.tmp t2) = .agg #[.int .i64 o2, .int .i64 n2, .slice A2 l2 c2]) (he3 : a.eval (.tmp t3) = .agg #[.int .i64 o3, .int .i64 n3, .slice A3 l3 c3]) (he4 : a.eval (.tmp t4) = .agg #[.int .i64 o4, .int .i64 n4, .slice A4 l4 c4])
    (hK : K (a.put (some d) (.slice (some ⟨w.heap.size, 0, none⟩) 5 5)) (w.alloc (.cells #[.int .i64 o0, .int .i64 n0, .slice A0 l0 c0, .int .i64 o1, .int .i64 n1, .slice A1 l1 c1, .int .i64 o2, .int .i64 n2, .slice A2 l2 c2, .int .i64 o3, .int .i64 n3, .slice A3 l3 c3, .int .i64 o4, .int .i64 n4, .slice A4 l4 c4] 25))) : Oper.wp Try.prog ⟨some d, .buildSlice 23 5 #[(0, .tmp t0), (1, .tmp t1), (2, .tmp t2), (3, .tmp t3), (4, .tmp t4)], ty, pos, af, none⟩ a w K Q := by
  have g0 : a.tmps[t0]?.getD undef = .agg #[.int .i64 o0, .int .i64 n0, .slice A0 l0 c0] := by simpa [Act.eval] using he0
  have g1 : a.tmps[t1]?.getD undef = .agg #[.int .i64 o1, .int .i64 n1, .slice A1 l1 c1] := by simpa [Act.eval] using he1
  have g2 : a.tmps[t2]?.getD undef = .agg #[.int .i64 o2, .int .i64 n2, .slice A2 l2 c2] := by simpa [Act.eval] using he2
  have g3 : a.tmps[t3]?.getD undef = .agg #[.int .i64 o3, .int .i64 n3, .slice A3 l3 c3] := by simpa [Act.eval] using he3
  have g4 : a.tmps[t4]?.getD undef = .agg #[.int .i64 o4, .int .i64 n4, .slice A4 l4 c4] := by simpa [Act.eval] using he4
  refine wp_val ?_ hK
  go_simp
theorem st_call {t : Nat} {x : Int} {A : Option Addr} {len cap : Nat} (he : a.eval (.tmp t) = .slice A len cap)
    (hK : ∀ w', Below w.heap.size w w' → K (a.put (some d) (.agg #[.int .i64 x, .int .i64 0, .slice A len cap])) w') : Oper.wp Try.prog ⟨some d, .call { callee := .value (.func 23), args := #[.const (.int .i64 x), .tmp t], argTypes := #[3, 23] }, ty, pos, af, none⟩ a w K Q := by
  have h2 : a.tmps[t]?.getD undef = .slice A len cap := by simpa [Act.eval] using he
  unfold Oper.wp
  go_simp
  refine (op_any x A len cap w).mono ?_
  rintro e w' ⟨rfl, hb⟩
  exact hK w' hb
theorem st_len {t n : Nat} {A : Option Addr} {cap : Nat} (he : a.eval (.tmp t) = .slice A n cap)
    (hK : K (a.put (some d) (.int .i64 (n : Int))) w) : Oper.wp Try.prog ⟨some d, .call { callee := .builtin .len, args := #[.tmp t], argTypes := #[23] }, ty, pos, af, none⟩ a w K Q := by
  have h2 : a.tmps[t]?.getD undef = .slice A n cap := by simpa [Act.eval] using he
  refine wp_val ?_ hK
  go_simp
theorem st_move {x : Value} (hK : K (a.put (some d) x) w) : Oper.wp Try.prog ⟨some d, .move (.const x), ty, pos, af, none⟩ a w K Q := by
  refine wp_val ?_ hK
  go_simp
end
def putsV (a : Act) (lo : Nat) (v : Nat → Value) : Nat → Act
  | 0 => a
  | n + 1 => (putsV a lo v n).put (some (lo + n)) (v n)
theorem over_succ (a : Act) (lo n : Nat) (v : Nat → Value) : over a lo (n + 1) v = (over a lo n v).put (some (lo + n)) (v n) := by
  have h : ∀ (s u : Array Value) (df : List Deferred), s = u → (⟨s, df⟩ : Act) = ⟨u, df⟩ := fun s u df e => by rw [e]
  unfold over
  show _ = (⟨_, _⟩ : Act)
  refine h _ _ _ (Array.ext_getElem? fun i => ?_)
  rw [Array.getElem?_setIfInBounds, Array.getElem?_mapIdx, Array.getElem?_mapIdx]
  by_cases hi : i < a.tmps.size
  · by_cases h : lo + n = i
    · subst h; simp [hi]
    · rw [if_neg h]
      simp [hi]
      by_cases h3 : lo ≤ i ∧ i < lo + n
      · rw [if_pos h3, if_pos (by omega)]
      · rw [if_neg h3, if_neg (by omega)]
  · simp [hi]; omega
theorem over_zero (a : Act) (lo : Nat) (v : Nat → Value) : over a lo 0 v = a := by
  have h : ∀ (s u : Array Value) (df : List Deferred), s = u → (⟨s, df⟩ : Act) = ⟨u, df⟩ := fun s u df e => by rw [e]
  obtain ⟨tm, df⟩ := a
  unfold over
  refine h _ _ _ (Array.ext_getElem? fun i => ?_)
  rw [Array.getElem?_mapIdx]
  by_cases hi : i < tm.size
  · simp [hi]; omega
  · simp [hi]
theorem over_puts (a : Act) (lo : Nat) (v : Nat → Value) : ∀ n, over a lo n v = putsV a lo v n
  | 0 => over_zero a lo v
  | n + 1 => by rw [over_succ, over_puts a lo v n, putsV]
theorem abs_act {P : Program} {c : Code} {Q : Exit → Act → World → Prop} {a : Act} {w : World} (h : ∀ a0, a0 = a → c.wp P Q a0 w) : c.wp P Q a w := h a rfl
def regOk (lo : Nat) (ops : Array Oper) : Bool := (List.range ops.size).all fun j => match ops[j]? with
  | some o => (o.dst == some (lo + j)) && o.guard.isNone && o.after.all (fun e => decide (e.on < j))
  | none => true
theorem regOk_spec {lo : Nat} {ops : Array Oper} (h : regOk lo ops = true) : (∀ j o, ops[j]? = some o → o.dst = some (lo + j) ∧ o.guard = none) ∧ (∀ (j : Nat) (o : Oper), ops[j]? = some o → ∀ e ∈ o.after, e.on < j) := by
  have H : ∀ j o, ops[j]? = some o → (o.dst == some (lo + j)) = true ∧ o.guard.isNone = true ∧ o.after.all (fun e => decide (e.on < j)) = true := fun j o ho => by
    have hj : j < ops.size := (Array.getElem?_eq_some_iff.1 ho).1
    unfold regOk at h
    rw [List.all_eq_true] at h
    have := h j (by simpa using hj)
    rw [ho] at this
    simp only [Bool.and_eq_true] at this
    exact ⟨this.1.1, this.1.2, this.2⟩
  refine ⟨fun j o ho => ⟨by simpa using (H j o ho).1, by simpa using (H j o ho).2.1⟩, fun j o ho e he => ?_⟩
  have := (H j o ho).2.2
  rw [Array.all_eq_true'] at this
  simpa using this e he
end Go.Proofs.Ytkjclofkfmkbdaa
namespace Go.Proofs.Ytkjclofkfmkbdaa
open Go.RowKit Ex
set_option linter.unusedSimpArgs false
set_option linter.unusedVariables false

inductive Kd where
  | is (v : Value)
  | kids (ts : List T)
  | ex (t : T)
def KidsP (w : World) (x : Value) (ts : List T) : Prop := ∃ g d, x = .slice (some ⟨g, 0, none⟩) ts.length ts.length ∧ ∀ o, RE w w.heap.size d o 0 (some ⟨g, 0, none⟩) ts.length ts.length (.mk o 0 ts)
def ExP (w : World) (x : Value) (t : T) : Prop := ∃ (o n : Int) (A : Option Addr) (l c d : Nat), x = .agg #[.int .i64 o, .int .i64 n, .slice A l c] ∧ RE w w.heap.size d o n A l c t
def PJ (ks : List Kd) (j : Nat) (x : Value) (w : World) : Prop := match ks[j]? with
  | some (.is v) => x = v
  | some (.kids ts) => KidsP w x ts
  | some (.ex t) => ExP w x t
  | none => True
theorem re_up {w w' : World} {d : Nat} {o n : Int} {A : Option Addr} {l c : Nat} {t : T} (h : RE w w.heap.size d o n A l c t) (hb : Below w.heap.size w w') : RE w' w'.heap.size d o n A l c t := RE.more hb.size _ _ _ _ _ _ _ (h.below hb)
theorem pj_mono (ks : List Kd) : ∀ j x w w', PJ ks j x w → Below w.heap.size w w' → PJ ks j x w' := by
  intro j x w w' h hb
  unfold PJ at h ⊢
  cases hk : ks[j]? with
  | none => trivial
  | some k =>
    rw [hk] at h
    cases k with
    | is v => exact h
    | kids ts =>
      obtain ⟨g, d, e, hr⟩ := h
      exact ⟨g, d, e, fun o => re_up (hr o) hb⟩
    | ex t =>
      obtain ⟨o, n, A, l, c, d, e, hr⟩ := h
      exact ⟨o, n, A, l, c, d, e, re_up hr hb⟩
theorem kids_ex {w w' : World} {g d k : Nat} {o : Int} {ts : List T} (hk : ts.length = k) (h : ∀ o, RE w w.heap.size d o 0 (some ⟨g, 0, none⟩) ts.length ts.length (.mk o 0 ts)) (hb : Below w.heap.size w w') : ExP w' (.agg #[.int .i64 o, .int .i64 0, .slice (some ⟨g, 0, none⟩) k k]) (.mk o 0 ts) := by
  subst hk
  exact ⟨o, 0, some ⟨g, 0, none⟩, ts.length, ts.length, d, rfl, re_up (h o) hb⟩
theorem kids_re {w : World} {g k : Nat} {ts : List T} (h : KidsP w (.slice (some ⟨g, 0, none⟩) k k) ts) : ∃ d, ∀ o, RE w w.heap.size d o 0 (some ⟨g, 0, none⟩) k k (.mk o 0 ts) := by
  obtain ⟨g2, d, e, hr⟩ := h
  injection e with e1 e2 e3
  injection e1 with e1
  injection e1 with e1
  subst e1; subst e2
  exact ⟨d, hr⟩
/- children newly laid -/
section
variable {w : World} {D : Nat}
def KidIs (w : World) (D : Nat) (x : K5) (t : T) : Prop := RE w w.heap.size D x.op x.n x.A x.len x.cap t
theorem laid {xs : List K5} {ts : List T} {cs : Array Value} (hl : xs.length = ts.length) (hm : ts.length ≤ maxLen) (hcs : cs.toList = flat xs) (h : ∀ (i : Nat) x t, xs[i]? = some x → ts[i]? = some t → KidIs w D x t) :
    KidsP (w.alloc (.cells cs 25)) (.slice (some ⟨w.heap.size, 0, none⟩) ts.length ts.length) ts := by
  have hb := (Below.refl w.heap.size w).alloc (Nat.le_refl _) (.cells cs 25)
  refine ⟨w.heap.size, D + 1, rfl, fun o => RE.node rfl (Nat.le_refl _) hm (by simp) (fun k u hu => ?_)⟩
  have hk : k < xs.length := by rw [hl]; exact (List.getElem?_eq_some_iff.1 hu).1
  obtain ⟨x, hx⟩ : ∃ x, xs[k]? = some x := ⟨_, List.getElem?_eq_getElem hk⟩
  obtain ⟨f0, f1, f2⟩ := flat_at xs k x hx
  have cell : ∀ j v, (flat xs)[j]? = some v → (w.alloc (.cells cs 25)).cell? ⟨w.heap.size, j, none⟩ = some v := fun j v hv => by
    rw [cell_of_row _ _ j cs 25 (0, 0) (heap_alloc_new w _)]
    rw [← hcs] at hv
    simpa using hv
  refine ⟨x.op, x.n, x.A, x.len, x.cap, ⟨?_, ?_, ?_⟩, re_up (h k x u hx hu) hb⟩
  · rw [Nat.zero_add]; exact cell _ _ f0
  · rw [Nat.zero_add]; exact cell _ _ f1
  · rw [Nat.zero_add]; exact cell _ _ f2
theorem KidIs.ups {x : K5} {t : T} (h : KidIs w D x t) (k : Nat) : KidIs w (D + k) x t := RE.ups k h
theorem laid1 {a : K5} {ta : T} {d : Nat} (ha : KidIs w d a ta) : KidsP (w.alloc (.cells #[.int .i64 a.op, .int .i64 a.n, .slice a.A a.len a.cap] 25)) (.slice (some ⟨w.heap.size, 0, none⟩) 1 1) [ta] :=
  laid (xs := [a]) (ts := [ta]) rfl (by simp [maxLen]) rfl (fun i x t hx ht => by
    match i, hx, ht with
    | 0, hx, ht => simp at hx ht; subst hx; subst ht; exact ha
    | i + 1, hx, ht => simp at hx)
theorem laid2 {a b : K5} {ta tb : T} {d1 d2 : Nat} (ha : KidIs w d1 a ta) (hb : KidIs w d2 b tb) : KidsP (w.alloc (.cells #[.int .i64 a.op, .int .i64 a.n, .slice a.A a.len a.cap, .int .i64 b.op, .int .i64 b.n, .slice b.A b.len b.cap] 25)) (.slice (some ⟨w.heap.size, 0, none⟩) 2 2) [ta, tb] :=
  laid (D := d1 + d2) (xs := [a, b]) (ts := [ta, tb]) rfl (by simp [maxLen]) rfl (fun i x t hx ht => by
    match i, hx, ht with
    | 0, hx, ht => simp at hx ht; subst hx; subst ht; exact ha.ups d2
    | 1, hx, ht => simp at hx ht; subst hx; subst ht; rw [Nat.add_comm]; exact hb.ups d1
    | i + 2, hx, ht => simp at hx)
theorem laid3 {a b c : K5} {ta tb tc : T} {d1 d2 d3 : Nat} (ha : KidIs w d1 a ta) (hb : KidIs w d2 b tb) (hc : KidIs w d3 c tc) : KidsP (w.alloc (.cells #[.int .i64 a.op, .int .i64 a.n, .slice a.A a.len a.cap, .int .i64 b.op, .int .i64 b.n, .slice b.A b.len b.cap, .int .i64 c.op, .int .i64 c.n, .slice c.A c.len c.cap] 25)) (.slice (some ⟨w.heap.size, 0, none⟩) 3 3) [ta, tb, tc] :=
  laid (D := d1 + d2 + d3) (xs := [a, b, c]) (ts := [ta, tb, tc]) rfl (by simp [maxLen]) rfl (fun i x t hx ht => by
    match i, hx, ht with
    | 0, hx, ht => simp at hx ht; subst hx; subst ht; rw [Nat.add_assoc]; exact ha.ups (d2 + d3)
    | 1, hx, ht => simp at hx ht; subst hx; subst ht; rw [Nat.add_comm d1, Nat.add_assoc]; exact hb.ups (d1 + d3)
    | 2, hx, ht => simp at hx ht; subst hx; subst ht; rw [Nat.add_comm]; exact hc.ups (d1 + d2)
    | i + 3, hx, ht => simp at hx)
theorem laid5 {a b c e f : K5} {ta tb tc te tf : T} {d1 d2 d3 d4 d5 : Nat} (ha : KidIs w d1 a ta) (hb : KidIs w d2 b tb) (hc : KidIs w d3 c tc) (he : KidIs w d4 e te) (hf : KidIs w d5 f tf) : KidsP (w.alloc (.cells #[.int .i64 a.op, .int .i64 a.n, .slice a.A a.len a.cap, .int .i64 b.op, .int .i64 b.n, .slice b.A b.len b.cap, .int .i64 c.op, .int .i64 c.n, .slice c.A c.len c.cap, .int .i64 e.op, .int .i64 e.n, .slice e.A e.len e.cap, .int .i64 f.op, .int .i64 f.n, .slice f.A f.len f.cap] 25)) (.slice (some ⟨w.heap.size, 0, none⟩) 5 5) [ta, tb, tc, te, tf] :=
  laid (D := d1 + d2 + d3 + d4 + d5) (xs := [a, b, c, e, f]) (ts := [ta, tb, tc, te, tf]) rfl (by simp [maxLen]) rfl (fun i x t hx ht => by
    match i, hx, ht with
    | 0, hx, ht => simp at hx ht; subst hx; subst ht; rw [show d1 + d2 + d3 + d4 + d5 = d1 + (d2 + d3 + d4 + d5) by omega]; exact ha.ups _
    | 1, hx, ht => simp at hx ht; subst hx; subst ht; rw [show d1 + d2 + d3 + d4 + d5 = d2 + (d1 + d3 + d4 + d5) by omega]; exact hb.ups _
    | 2, hx, ht => simp at hx ht; subst hx; subst ht; rw [show d1 + d2 + d3 + d4 + d5 = d3 + (d1 + d2 + d4 + d5) by omega]; exact hc.ups _
    | 3, hx, ht => simp at hx ht; subst hx; subst ht; rw [show d1 + d2 + d3 + d4 + d5 = d4 + (d1 + d2 + d3 + d5) by omega]; exact he.ups _
    | 4, hx, ht => simp at hx ht; subst hx; subst ht; rw [show d1 + d2 + d3 + d4 + d5 = d5 + (d1 + d2 + d3 + d4) by omega]; exact hf.ups _
    | i + 5, hx, ht => simp at hx)
end
end Go.Proofs.Ytkjclofkfmkbdaa
