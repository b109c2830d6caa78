/- Three calls of Env, or of Sys, in a region that draws its order. -/
import Derived.Test.YtohegmnfmomjaaaCMoreC
set_option maxRecDepth 100000
namespace Go.Proofs.Ytohegmnfmomjaaa
open Go.RowKit Ex
set_option linter.unusedSimpArgs false
set_option linter.unusedVariables false

def RowC (base : Nat) (xs : List Int) (v : Value) (w : World) (gi : List Nat) : Prop := ∃ O c, v = .slice O xs.length c ∧ gi = (Value.slice O xs.length c).ownBlock.toList ∧ w.ownsRow base 3 1 (.slice O xs.length c) xs.length (ints xs)
theorem RowC.keep {base : Nat} {xs : List Int} {v : Value} {w w' : World} {gi : List Nat} (h : RowC base xs v w gi) (hk : ∀ b ∈ gi, w'.heap[b]? = w.heap[b]?) : RowC base xs v w' gi := by
  obtain ⟨O, c, h1, h2, h3⟩ := h
  exact ⟨O, c, h1, h2, own_at h3 (fun b hb => hk b (by rw [h2, hb]; simp))⟩
section
variable {a : Act} {w : World} {K : Act → World → Prop} {Q : Exit → Act → World → Prop} {d ty : Nat} {pos : String} {af : Array Edge}
theorem st_assign6 {t : Nat} {v : Value} (he : a.eval (.tmp t) = v) (hK : K (a.put (some d) v) w) : Oper.wp Try.prog ⟨some d, .assign (.tmp t), ty, pos, af, none⟩ a w K Q := by
  refine wp_val ?_ hK
  simp only [execOp, he]
  go_simp
theorem st_load28 {t b : Nat} {x : M8} (he : a.eval (.tmp t) = .pointer (some ⟨b, 0, none⟩)) (hx : BoxM w b x) (hK : K (a.put (some d) (.agg x.cells)) w) : Oper.wp Try.prog ⟨some d, .load 28 (.tmp t), ty, pos, af, none⟩ a w K Q := by
  have he' : a.tmps[t]?.getD undef = .pointer (some ⟨b, 0, none⟩) := by simpa [Act.eval] using he
  obtain ⟨⟨vA, vn, vc⟩, ⟨io, im, iA, il, ic⟩, ⟨jo, jm, jA, jl, jc⟩, ⟨eA, en, ec⟩, ⟨sA, sn, sc⟩, ⟨aA, an, ac⟩, ⟨nA, nn, nc⟩, ⟨pA, pn, pc⟩⟩ := x
  obtain ⟨q0, q1, q2, q3, q4, q5, q6, q7, q8, q9, q10, q11⟩ := row12 hx
  simp only [M8.cells, SL.v] at *
  refine wp_val ?_ hK
  simp only [execOp]
  go_simp
theorem st_callE {t s B : Nat} {x : M8} {m : MT} {st : Int} (he : a.eval (.tmp t) = .agg x.cells) (hs : a.eval (.tmp s) = .int .i64 st) (hB : B ≤ w.heap.size) (hrm : RM w B x m)
    (hK : ∀ O c w', w'.ownsRow w.heap.size 3 1 (.slice O (envL m st).length c) (envL m st).length (ints (envL m st)) → Below w.heap.size w w' → K (a.put (some d) (.slice O (envL m st).length c)) w') : Oper.wp Try.prog ⟨some d, .call { callee := .value (.func 14), args := #[.tmp t, .tmp s], argTypes := #[28, 3] }, ty, pos, af, none⟩ a w K Q := by
  have h1 : a.tmps[t]?.getD undef = .agg x.cells := by simpa [Act.eval] using he
  have h2 : a.tmps[s]?.getD undef = .int .i64 st := by simpa [Act.eval] using hs
  unfold Oper.wp
  go_simp
  refine (denv_any B x m st w hB hrm).mono ?_
  rintro e w' ⟨O, n, c, rfl, how, rfl, hb⟩
  exact hK O c w' how hb
theorem st_callS {t s p B : Nat} {x : M8} {m : MT} {st pk : Int} (he : a.eval (.tmp t) = .agg x.cells) (hs : a.eval (.tmp s) = .int .i64 st) (hp : a.eval (.tmp p) = .int .i64 pk) (hB : B ≤ w.heap.size) (hrm : RM w B x m)
    (hK : ∀ O c w', w'.ownsRow w.heap.size 3 1 (.slice O (sysL m st pk).length c) (sysL m st pk).length (ints (sysL m st pk)) → Below w.heap.size w w' → K (a.put (some d) (.slice O (sysL m st pk).length c)) w') : Oper.wp Try.prog ⟨some d, .call { callee := .value (.func 15), args := #[.tmp t, .tmp s, .tmp p], argTypes := #[28, 3, 3] }, ty, pos, af, none⟩ a w K Q := by
  have h1 : a.tmps[t]?.getD undef = .agg x.cells := by simpa [Act.eval] using he
  have h2 : a.tmps[s]?.getD undef = .int .i64 st := by simpa [Act.eval] using hs
  have h3 : a.tmps[p]?.getD undef = .int .i64 pk := by simpa [Act.eval] using hp
  unfold Oper.wp
  go_simp
  refine (dsys_any B x m st pk w hB hrm).mono ?_
  rintro e w' ⟨O, n, c, rfl, how, rfl, hb⟩
  exact hK O c w' how hb
end
def dstCE : Nat → Nat
  | 0 => 91
  | 1 => 92
  | 2 => 93
  | 3 => 94
  | 4 => 95
  | 5 => 96
  | 6 => 97
  | 7 => 98
  | 8 => 99
  | 9 => 13
  | 10 => 14
  | 11 => 15
  | k + 12 => 1012 + k
def depsCE : Nat → List Nat
  | 2 => [0, 1]
  | 5 => [3, 4]
  | 8 => [6, 7]
  | 9 => [2]
  | 10 => [5]
  | 11 => [8]
  | _ => []
def eatsCE : Nat → List Nat
  | 9 => [2]
  | 10 => [5]
  | 11 => [8]
  | _ => []
def readsC : Nat → List Nat := fun _ => []
def SCE (x0 x1 x2 : M8) (st pk : Int) : Nat → Value → Prop
  | 0, v => v = .agg x0.cells
  | 1, v => v = .int .i64 st
  | 3, v => v = .agg x1.cells
  | 4, v => v = .int .i64 st
  | 6, v => v = .agg x2.cells
  | 7, v => v = .int .i64 st
  | _, _ => True
def RCE (base : Nat) (la lb ld : List Int) : Nat → Value → World → List Nat → Prop
  | 2, v, w, gi => RowC base la v w gi
  | 5, v, w, gi => RowC base lb v w gi
  | 8, v, w, gi => RowC base ld v w gi
  | 9, v, w, gi => RowC base la v w gi
  | 10, v, w, gi => RowC base lb v w gi
  | 11, v, w, gi => RowC base ld v w gi
  | _, _, _, gi => gi = []
theorem lt12c {i : Nat} (h : i < 12) : i = 0 ∨ i = 1 ∨ i = 2 ∨ i = 3 ∨ i = 4 ∨ i = 5 ∨ i = 6 ∨ i = 7 ∨ i = 8 ∨ i = 9 ∨ i = 10 ∨ i = 11 := by omega
set_option maxHeartbeats 4000000 in
theorem calls_regionE {id b0 b1 b2 : Nat} {ops : Array Oper} {Q : Exit → Act → World → Prop} {a0 : Act} {W : World} {x0 x1 x2 : M8} {m0 m1 m2 : MT} {st pk : Int}
    (hm : Try.prog.follows .mixedOrders = true) (hsz : ops.size = 12) (hac : ownAc ops = true) (hdep : ownDeps ops depsCE = true)
    (o0 : ∃ ty pos af, ops[0]? = some ⟨some 91, .load 28 (.tmp 5), ty, pos, af, none⟩)
    (o1 : ∃ ty pos af, ops[1]? = some ⟨some 92, .move (.tmp 3), ty, pos, af, none⟩)
    (o2 : ∃ ty pos af, ops[2]? = some ⟨some 93, .call { callee := .value (.func 14), args := #[.tmp 91, .tmp 92], argTypes := #[28, 3] }, ty, pos, af, none⟩)
    (o3 : ∃ ty pos af, ops[3]? = some ⟨some 94, .load 28 (.tmp 11), ty, pos, af, none⟩)
    (o4 : ∃ ty pos af, ops[4]? = some ⟨some 95, .move (.tmp 3), ty, pos, af, none⟩)
    (o5 : ∃ ty pos af, ops[5]? = some ⟨some 96, .call { callee := .value (.func 14), args := #[.tmp 94, .tmp 95], argTypes := #[28, 3] }, ty, pos, af, none⟩)
    (o6 : ∃ ty pos af, ops[6]? = some ⟨some 97, .load 28 (.tmp 12), ty, pos, af, none⟩)
    (o7 : ∃ ty pos af, ops[7]? = some ⟨some 98, .move (.tmp 3), ty, pos, af, none⟩)
    (o8 : ∃ ty pos af, ops[8]? = some ⟨some 99, .call { callee := .value (.func 14), args := #[.tmp 97, .tmp 98], argTypes := #[28, 3] }, ty, pos, af, none⟩)
    (o9 : ∃ ty pos af, ops[9]? = some ⟨some 13, .assign (.tmp 93), ty, pos, af, none⟩)
    (o10 : ∃ ty pos af, ops[10]? = some ⟨some 14, .assign (.tmp 96), ty, pos, af, none⟩)
    (o11 : ∃ ty pos af, ops[11]? = some ⟨some 15, .assign (.tmp 99), ty, pos, af, none⟩)
    (hts : 100 ≤ a0.tmps.size) (h3 : a0.eval (.tmp 3) = .int .i64 st) (h4 : a0.eval (.tmp 4) = .int .i64 pk) (h5 : a0.eval (.tmp 5) = .pointer (some ⟨b0, 0, none⟩)) (h11 : a0.eval (.tmp 11) = .pointer (some ⟨b1, 0, none⟩)) (h12 : a0.eval (.tmp 12) = .pointer (some ⟨b2, 0, none⟩))
    (hx0 : BoxM W b0 x0) (hx1 : BoxM W b1 x1) (hx2 : BoxM W b2 x2) (hb0 : b0 < W.heap.size) (hb1 : b1 < W.heap.size) (hb2 : b2 < W.heap.size) (hr0 : RM W W.heap.size x0 m0) (hr1 : RM W W.heap.size x1 m1) (hr2 : RM W W.heap.size x2 m2)
    (hend : ∀ (u : Nat → Value) (Oa Ob Od : Option Addr) (ca cb cd : Nat) (w : World), u 13 = .slice Oa (envL m0 st).length ca → u 14 = .slice Ob (envL m1 st).length cb → u 15 = .slice Od (envL m2 st).length cd → RIF w W.heap.size Oa (envL m0 st).length (envL m0 st) → RIF w W.heap.size Ob (envL m1 st).length (envL m1 st) → RIF w W.heap.size Od (envL m2 st).length (envL m2 st) → Below W.heap.size W w → Q .normal (sel [91, 92, 93, 94, 95, 96, 97, 98, 99, 13, 14, 15] a0 u) w) :
    (Code.region id ops true).wp Try.prog Q a0 W := by
  refine region_res (n := 12) (N := 12) (base := W.heap.size) [91, 92, 93, 94, 95, 96, 97, 98, 99, 13, 14, 15] dstCE depsCE eatsCE readsC (fun _ => []) (SCE x0 x1 x2 st pk) (RCE W.heap.size (envL m0 st) (envL m1 st) (envL m2 st)) hm hsz (Nat.le_refl _) hac hdep (Nat.le_refl _) ?_ ?_ ?_ ?_ ?_ ?_ ?_ ?_ ?_ ?_ ?_
  · intro i j hi h
    have hall : ∀ i, i < 12 → ∀ j ∈ eatsCE i ++ readsC i, (j ∈ depsCE i ∨ 12 ≤ j) ∧ j < 12 := by decide +kernel
    exact hall i hi j (List.mem_append.2 h)
  · intro i i' j hi hi' h h'
    have hall : ∀ i, i < 12 → ∀ i', i' < 12 → ∀ j ∈ eatsCE i, j ∈ eatsCE i' → i = i' := by decide +kernel
    exact hall i hi i' hi' j h h'
  · intro i e j hi he h h'
    simp [readsC] at h
  · intro i j hi h
    have hall : ∀ i, i < 12 → ∀ j ∈ depsCE i, j < i := by decide +kernel
    exact hall i hi j h
  · intro i o ho
    have hi : i < 12 := by rw [← hsz]; exact (Array.getElem?_eq_some_iff.1 ho).1
    rcases lt12c hi with rfl | rfl | rfl | rfl | rfl | rfl | rfl | rfl | rfl | rfl | rfl | rfl
    · obtain ⟨ty, pos, af, e⟩ := o0; rw [ho] at e; obtain rfl := Option.some.inj e; exact .inl ⟨rfl, by decide, by show 91 < _; omega⟩
    · obtain ⟨ty, pos, af, e⟩ := o1; rw [ho] at e; obtain rfl := Option.some.inj e; exact .inl ⟨rfl, by decide, by show 92 < _; omega⟩
    · obtain ⟨ty, pos, af, e⟩ := o2; rw [ho] at e; obtain rfl := Option.some.inj e; exact .inl ⟨rfl, by decide, by show 93 < _; omega⟩
    · obtain ⟨ty, pos, af, e⟩ := o3; rw [ho] at e; obtain rfl := Option.some.inj e; exact .inl ⟨rfl, by decide, by show 94 < _; omega⟩
    · obtain ⟨ty, pos, af, e⟩ := o4; rw [ho] at e; obtain rfl := Option.some.inj e; exact .inl ⟨rfl, by decide, by show 95 < _; omega⟩
    · obtain ⟨ty, pos, af, e⟩ := o5; rw [ho] at e; obtain rfl := Option.some.inj e; exact .inl ⟨rfl, by decide, by show 96 < _; omega⟩
    · obtain ⟨ty, pos, af, e⟩ := o6; rw [ho] at e; obtain rfl := Option.some.inj e; exact .inl ⟨rfl, by decide, by show 97 < _; omega⟩
    · obtain ⟨ty, pos, af, e⟩ := o7; rw [ho] at e; obtain rfl := Option.some.inj e; exact .inl ⟨rfl, by decide, by show 98 < _; omega⟩
    · obtain ⟨ty, pos, af, e⟩ := o8; rw [ho] at e; obtain rfl := Option.some.inj e; exact .inl ⟨rfl, by decide, by show 99 < _; omega⟩
    · obtain ⟨ty, pos, af, e⟩ := o9; rw [ho] at e; obtain rfl := Option.some.inj e; exact .inl ⟨rfl, by decide, by show 13 < _; omega⟩
    · obtain ⟨ty, pos, af, e⟩ := o10; rw [ho] at e; obtain rfl := Option.some.inj e; exact .inl ⟨rfl, by decide, by show 14 < _; omega⟩
    · obtain ⟨ty, pos, af, e⟩ := o11; rw [ho] at e; obtain rfl := Option.some.inj e; exact .inl ⟨rfl, by decide, by show 15 < _; omega⟩
  · intro i j hi hj h
    have hall : ∀ i, i < 12 → ∀ j, j < 12 → dstCE i = dstCE j → i = j := by decide +kernel
    exact hall i hi j hj h
  · intro j y w w' g hi hr hbw hbw' hk
    rcases lt12c hi with rfl | rfl | rfl | rfl | rfl | rfl | rfl | rfl | rfl | rfl | rfl | rfl
    · exact hr
    · exact hr
    · exact RowC.keep hr hk
    · exact hr
    · exact hr
    · exact RowC.keep hr hk
    · exact hr
    · exact hr
    · exact RowC.keep hr hk
    · exact RowC.keep hr hk
    · exact RowC.keep hr hk
    · exact RowC.keep hr hk
  · intro j y hj hj2
    omega
  · intro i j b hi hi2 hj hj2 hne2 hb hb'
    omega
  · intro i o a w v g K hi ho hs hd hr hdj hbw hWw hK
    rcases lt12c hi with rfl | rfl | rfl | rfl | rfl | rfl | rfl | rfl | rfl | rfl | rfl | rfl
    · obtain ⟨ty, pos, af, e⟩ := o0; rw [ho] at e; obtain rfl := Option.some.inj e
      exact st_load28 ((hs 5 (by decide)).trans h5) (hx0.below hbw hb0) (hK _ [] _ rfl rfl hbw (Nat.le_refl _) (fun b hb => by simp at hb) (fun b hb _ => rfl))
    · obtain ⟨ty, pos, af, e⟩ := o1; rw [ho] at e; obtain rfl := Option.some.inj e
      exact st_move ((hs 3 (by decide)).trans h3) (hK _ [] _ rfl rfl hbw (Nat.le_refl _) (fun b hb => by simp at hb) (fun b hb _ => rfl))
    · obtain ⟨ty, pos, af, e⟩ := o2; rw [ho] at e; obtain rfl := Option.some.inj e
      obtain ⟨d0, s0⟩ := hd 0 (by simp [depsCE])
      have d0 : a.eval (.tmp 91) = v 0 := d0 (by decide)
      obtain ⟨d1, s1⟩ := hd 1 (by simp [depsCE])
      have d1 : a.eval (.tmp 92) = v 1 := d1 (by decide)
      refine st_callE (B := W.heap.size) (d0.trans s0) (d1.trans s1) hWw (hr0.below hbw) (fun O c w' how hb' => hK _ (Value.slice O (envL m0 st).length c).ownBlock.toList w' trivial ⟨O, c, rfl, rfl, own_base0 how hWw⟩ (hbw.trans (hb'.mono hWw)) hb'.size (fun b hb => ?_) (fun b hb _ => hb'.block b hb))
      have := how.lt b (by simpa using hb)
      exact ⟨.inr this.1, this.2⟩
    · obtain ⟨ty, pos, af, e⟩ := o3; rw [ho] at e; obtain rfl := Option.some.inj e
      exact st_load28 ((hs 11 (by decide)).trans h11) (hx1.below hbw hb1) (hK _ [] _ rfl rfl hbw (Nat.le_refl _) (fun b hb => by simp at hb) (fun b hb _ => rfl))
    · obtain ⟨ty, pos, af, e⟩ := o4; rw [ho] at e; obtain rfl := Option.some.inj e
      exact st_move ((hs 3 (by decide)).trans h3) (hK _ [] _ rfl rfl hbw (Nat.le_refl _) (fun b hb => by simp at hb) (fun b hb _ => rfl))
    · obtain ⟨ty, pos, af, e⟩ := o5; rw [ho] at e; obtain rfl := Option.some.inj e
      obtain ⟨d3, s3⟩ := hd 3 (by simp [depsCE])
      have d3 : a.eval (.tmp 94) = v 3 := d3 (by decide)
      obtain ⟨d4, s4⟩ := hd 4 (by simp [depsCE])
      have d4 : a.eval (.tmp 95) = v 4 := d4 (by decide)
      refine st_callE (B := W.heap.size) (d3.trans s3) (d4.trans s4) hWw (hr1.below hbw) (fun O c w' how hb' => hK _ (Value.slice O (envL m1 st).length c).ownBlock.toList w' trivial ⟨O, c, rfl, rfl, own_base0 how hWw⟩ (hbw.trans (hb'.mono hWw)) hb'.size (fun b hb => ?_) (fun b hb _ => hb'.block b hb))
      have := how.lt b (by simpa using hb)
      exact ⟨.inr this.1, this.2⟩
    · obtain ⟨ty, pos, af, e⟩ := o6; rw [ho] at e; obtain rfl := Option.some.inj e
      exact st_load28 ((hs 12 (by decide)).trans h12) (hx2.below hbw hb2) (hK _ [] _ rfl rfl hbw (Nat.le_refl _) (fun b hb => by simp at hb) (fun b hb _ => rfl))
    · obtain ⟨ty, pos, af, e⟩ := o7; rw [ho] at e; obtain rfl := Option.some.inj e
      exact st_move ((hs 3 (by decide)).trans h3) (hK _ [] _ rfl rfl hbw (Nat.le_refl _) (fun b hb => by simp at hb) (fun b hb _ => rfl))
    · obtain ⟨ty, pos, af, e⟩ := o8; rw [ho] at e; obtain rfl := Option.some.inj e
      obtain ⟨d6, s6⟩ := hd 6 (by simp [depsCE])
      have d6 : a.eval (.tmp 97) = v 6 := d6 (by decide)
      obtain ⟨d7, s7⟩ := hd 7 (by simp [depsCE])
      have d7 : a.eval (.tmp 98) = v 7 := d7 (by decide)
      refine st_callE (B := W.heap.size) (d6.trans s6) (d7.trans s7) hWw (hr2.below hbw) (fun O c w' how hb' => hK _ (Value.slice O (envL m2 st).length c).ownBlock.toList w' trivial ⟨O, c, rfl, rfl, own_base0 how hWw⟩ (hbw.trans (hb'.mono hWw)) hb'.size (fun b hb => ?_) (fun b hb _ => hb'.block b hb))
      have := how.lt b (by simpa using hb)
      exact ⟨.inr this.1, this.2⟩
    · obtain ⟨ty, pos, af, e⟩ := o9; rw [ho] at e; obtain rfl := Option.some.inj e
      obtain ⟨d2, s2⟩ := hd 2 (by simp [depsCE])
      have d2 : a.eval (.tmp 93) = v 2 := d2 (by decide)
      obtain ⟨r, q2⟩ := hr 2 (.inl (by simp [eatsCE]))
      exact st_assign6 d2 (hK _ (g 2) _ trivial r hbw (Nat.le_refl _) (fun b hb => ⟨.inl ⟨2, by simp [eatsCE], hb⟩, (q2 b hb).2⟩) (fun b hb _ => rfl))
    · obtain ⟨ty, pos, af, e⟩ := o10; rw [ho] at e; obtain rfl := Option.some.inj e
      obtain ⟨d5, s5⟩ := hd 5 (by simp [depsCE])
      have d5 : a.eval (.tmp 96) = v 5 := d5 (by decide)
      obtain ⟨r, q2⟩ := hr 5 (.inl (by simp [eatsCE]))
      exact st_assign6 d5 (hK _ (g 5) _ trivial r hbw (Nat.le_refl _) (fun b hb => ⟨.inl ⟨5, by simp [eatsCE], hb⟩, (q2 b hb).2⟩) (fun b hb _ => rfl))
    · obtain ⟨ty, pos, af, e⟩ := o11; rw [ho] at e; obtain rfl := Option.some.inj e
      obtain ⟨d8, s8⟩ := hd 8 (by simp [depsCE])
      have d8 : a.eval (.tmp 99) = v 8 := d8 (by decide)
      obtain ⟨r, q2⟩ := hr 8 (.inl (by simp [eatsCE]))
      exact st_assign6 d8 (hK _ (g 8) _ trivial r hbw (Nat.le_refl _) (fun b hb => ⟨.inl ⟨8, by simp [eatsCE], hb⟩, (q2 b hb).2⟩) (fun b hb _ => rfl))
  · intro u g w hS hR hD hbw hWw
    have hall : ∀ j ∈ [9, 10, 11], ∀ e, e < 12 → j ∉ eatsCE e := by decide +kernel
    obtain ⟨⟨Oa, ca, ea, _, oa⟩, _⟩ := hR 9 (by omega) (fun e he => hall _ (by simp) e he)
    obtain ⟨⟨Ob, cb, eb, _, ob⟩, _⟩ := hR 10 (by omega) (fun e he => hall _ (by simp) e he)
    obtain ⟨⟨Od, cd, ed, _, od⟩, _⟩ := hR 11 (by omega) (fun e he => hall _ (by simp) e he)
    exact hend u Oa Ob Od ca cb cd w ea eb ed (rif_own oa) (rif_own ob) (rif_own od) hbw
def dstCS : Nat → Nat
  | 0 => 102
  | 1 => 103
  | 2 => 104
  | 3 => 105
  | 4 => 106
  | 5 => 107
  | 6 => 108
  | 7 => 109
  | 8 => 110
  | 9 => 111
  | 10 => 112
  | 11 => 113
  | 12 => 13
  | 13 => 14
  | 14 => 15
  | k + 15 => 1015 + k
def depsCS : Nat → List Nat
  | 3 => [0, 1, 2]
  | 7 => [4, 5, 6]
  | 11 => [8, 9, 10]
  | 12 => [3]
  | 13 => [7]
  | 14 => [11]
  | _ => []
def eatsCS : Nat → List Nat
  | 12 => [3]
  | 13 => [7]
  | 14 => [11]
  | _ => []
def SCS (x0 x1 x2 : M8) (st pk : Int) : Nat → Value → Prop
  | 0, v => v = .agg x0.cells
  | 1, v => v = .int .i64 st
  | 2, v => v = .int .i64 pk
  | 4, v => v = .agg x1.cells
  | 5, v => v = .int .i64 st
  | 6, v => v = .int .i64 pk
  | 8, v => v = .agg x2.cells
  | 9, v => v = .int .i64 st
  | 10, v => v = .int .i64 pk
  | _, _ => True
def RCS (base : Nat) (la lb ld : List Int) : Nat → Value → World → List Nat → Prop
  | 3, v, w, gi => RowC base la v w gi
  | 7, v, w, gi => RowC base lb v w gi
  | 11, v, w, gi => RowC base ld v w gi
  | 12, v, w, gi => RowC base la v w gi
  | 13, v, w, gi => RowC base lb v w gi
  | 14, v, w, gi => RowC base ld v w gi
  | _, _, _, gi => gi = []
theorem lt15c {i : Nat} (h : i < 15) : i = 0 ∨ i = 1 ∨ i = 2 ∨ i = 3 ∨ i = 4 ∨ i = 5 ∨ i = 6 ∨ i = 7 ∨ i = 8 ∨ i = 9 ∨ i = 10 ∨ i = 11 ∨ i = 12 ∨ i = 13 ∨ i = 14 := by omega
set_option maxHeartbeats 4000000 in
theorem calls_regionS {id b0 b1 b2 : Nat} {ops : Array Oper} {Q : Exit → Act → World → Prop} {a0 : Act} {W : World} {x0 x1 x2 : M8} {m0 m1 m2 : MT} {st pk : Int}
    (hm : Try.prog.follows .mixedOrders = true) (hsz : ops.size = 15) (hac : ownAc ops = true) (hdep : ownDeps ops depsCS = true)
    (o0 : ∃ ty pos af, ops[0]? = some ⟨some 102, .load 28 (.tmp 5), ty, pos, af, none⟩)
    (o1 : ∃ ty pos af, ops[1]? = some ⟨some 103, .move (.tmp 3), ty, pos, af, none⟩)
    (o2 : ∃ ty pos af, ops[2]? = some ⟨some 104, .move (.tmp 4), ty, pos, af, none⟩)
    (o3 : ∃ ty pos af, ops[3]? = some ⟨some 105, .call { callee := .value (.func 15), args := #[.tmp 102, .tmp 103, .tmp 104], argTypes := #[28, 3, 3] }, ty, pos, af, none⟩)
    (o4 : ∃ ty pos af, ops[4]? = some ⟨some 106, .load 28 (.tmp 11), ty, pos, af, none⟩)
    (o5 : ∃ ty pos af, ops[5]? = some ⟨some 107, .move (.tmp 3), ty, pos, af, none⟩)
    (o6 : ∃ ty pos af, ops[6]? = some ⟨some 108, .move (.tmp 4), ty, pos, af, none⟩)
    (o7 : ∃ ty pos af, ops[7]? = some ⟨some 109, .call { callee := .value (.func 15), args := #[.tmp 106, .tmp 107, .tmp 108], argTypes := #[28, 3, 3] }, ty, pos, af, none⟩)
    (o8 : ∃ ty pos af, ops[8]? = some ⟨some 110, .load 28 (.tmp 12), ty, pos, af, none⟩)
    (o9 : ∃ ty pos af, ops[9]? = some ⟨some 111, .move (.tmp 3), ty, pos, af, none⟩)
    (o10 : ∃ ty pos af, ops[10]? = some ⟨some 112, .move (.tmp 4), ty, pos, af, none⟩)
    (o11 : ∃ ty pos af, ops[11]? = some ⟨some 113, .call { callee := .value (.func 15), args := #[.tmp 110, .tmp 111, .tmp 112], argTypes := #[28, 3, 3] }, ty, pos, af, none⟩)
    (o12 : ∃ ty pos af, ops[12]? = some ⟨some 13, .assign (.tmp 105), ty, pos, af, none⟩)
    (o13 : ∃ ty pos af, ops[13]? = some ⟨some 14, .assign (.tmp 109), ty, pos, af, none⟩)
    (o14 : ∃ ty pos af, ops[14]? = some ⟨some 15, .assign (.tmp 113), ty, pos, af, none⟩)
    (hts : 114 ≤ a0.tmps.size) (h3 : a0.eval (.tmp 3) = .int .i64 st) (h4 : a0.eval (.tmp 4) = .int .i64 pk) (h5 : a0.eval (.tmp 5) = .pointer (some ⟨b0, 0, none⟩)) (h11 : a0.eval (.tmp 11) = .pointer (some ⟨b1, 0, none⟩)) (h12 : a0.eval (.tmp 12) = .pointer (some ⟨b2, 0, none⟩))
    (hx0 : BoxM W b0 x0) (hx1 : BoxM W b1 x1) (hx2 : BoxM W b2 x2) (hb0 : b0 < W.heap.size) (hb1 : b1 < W.heap.size) (hb2 : b2 < W.heap.size) (hr0 : RM W W.heap.size x0 m0) (hr1 : RM W W.heap.size x1 m1) (hr2 : RM W W.heap.size x2 m2)
    (hend : ∀ (u : Nat → Value) (Oa Ob Od : Option Addr) (ca cb cd : Nat) (w : World), u 13 = .slice Oa (sysL m0 st pk).length ca → u 14 = .slice Ob (sysL m1 st pk).length cb → u 15 = .slice Od (sysL m2 st pk).length cd → RIF w W.heap.size Oa (sysL m0 st pk).length (sysL m0 st pk) → RIF w W.heap.size Ob (sysL m1 st pk).length (sysL m1 st pk) → RIF w W.heap.size Od (sysL m2 st pk).length (sysL m2 st pk) → Below W.heap.size W w → Q .normal (sel [102, 103, 104, 105, 106, 107, 108, 109, 110, 111, 112, 113, 13, 14, 15] a0 u) w) :
    (Code.region id ops true).wp Try.prog Q a0 W := by
  refine region_res (n := 15) (N := 15) (base := W.heap.size) [102, 103, 104, 105, 106, 107, 108, 109, 110, 111, 112, 113, 13, 14, 15] dstCS depsCS eatsCS readsC (fun _ => []) (SCS x0 x1 x2 st pk) (RCS W.heap.size (sysL m0 st pk) (sysL m1 st pk) (sysL m2 st pk)) hm hsz (Nat.le_refl _) hac hdep (Nat.le_refl _) ?_ ?_ ?_ ?_ ?_ ?_ ?_ ?_ ?_ ?_ ?_
  · intro i j hi h
    have hall : ∀ i, i < 15 → ∀ j ∈ eatsCS i ++ readsC i, (j ∈ depsCS i ∨ 15 ≤ j) ∧ j < 15 := by decide +kernel
    exact hall i hi j (List.mem_append.2 h)
  · intro i i' j hi hi' h h'
    have hall : ∀ i, i < 15 → ∀ i', i' < 15 → ∀ j ∈ eatsCS i, j ∈ eatsCS i' → i = i' := by decide +kernel
    exact hall i hi i' hi' j h h'
  · intro i e j hi he h h'
    simp [readsC] at h
  · intro i j hi h
    have hall : ∀ i, i < 15 → ∀ j ∈ depsCS i, j < i := by decide +kernel
    exact hall i hi j h
  · intro i o ho
    have hi : i < 15 := by rw [← hsz]; exact (Array.getElem?_eq_some_iff.1 ho).1
    rcases lt15c hi with rfl | rfl | rfl | rfl | rfl | rfl | rfl | rfl | rfl | rfl | rfl | rfl | rfl | rfl | rfl
    · obtain ⟨ty, pos, af, e⟩ := o0; rw [ho] at e; obtain rfl := Option.some.inj e; exact .inl ⟨rfl, by decide, by show 102 < _; omega⟩
    · obtain ⟨ty, pos, af, e⟩ := o1; rw [ho] at e; obtain rfl := Option.some.inj e; exact .inl ⟨rfl, by decide, by show 103 < _; omega⟩
    · obtain ⟨ty, pos, af, e⟩ := o2; rw [ho] at e; obtain rfl := Option.some.inj e; exact .inl ⟨rfl, by decide, by show 104 < _; omega⟩
    · obtain ⟨ty, pos, af, e⟩ := o3; rw [ho] at e; obtain rfl := Option.some.inj e; exact .inl ⟨rfl, by decide, by show 105 < _; omega⟩
    · obtain ⟨ty, pos, af, e⟩ := o4; rw [ho] at e; obtain rfl := Option.some.inj e; exact .inl ⟨rfl, by decide, by show 106 < _; omega⟩
    · obtain ⟨ty, pos, af, e⟩ := o5; rw [ho] at e; obtain rfl := Option.some.inj e; exact .inl ⟨rfl, by decide, by show 107 < _; omega⟩
    · obtain ⟨ty, pos, af, e⟩ := o6; rw [ho] at e; obtain rfl := Option.some.inj e; exact .inl ⟨rfl, by decide, by show 108 < _; omega⟩
    · obtain ⟨ty, pos, af, e⟩ := o7; rw [ho] at e; obtain rfl := Option.some.inj e; exact .inl ⟨rfl, by decide, by show 109 < _; omega⟩
    · obtain ⟨ty, pos, af, e⟩ := o8; rw [ho] at e; obtain rfl := Option.some.inj e; exact .inl ⟨rfl, by decide, by show 110 < _; omega⟩
    · obtain ⟨ty, pos, af, e⟩ := o9; rw [ho] at e; obtain rfl := Option.some.inj e; exact .inl ⟨rfl, by decide, by show 111 < _; omega⟩
    · obtain ⟨ty, pos, af, e⟩ := o10; rw [ho] at e; obtain rfl := Option.some.inj e; exact .inl ⟨rfl, by decide, by show 112 < _; omega⟩
    · obtain ⟨ty, pos, af, e⟩ := o11; rw [ho] at e; obtain rfl := Option.some.inj e; exact .inl ⟨rfl, by decide, by show 113 < _; omega⟩
    · obtain ⟨ty, pos, af, e⟩ := o12; rw [ho] at e; obtain rfl := Option.some.inj e; exact .inl ⟨rfl, by decide, by show 13 < _; omega⟩
    · obtain ⟨ty, pos, af, e⟩ := o13; rw [ho] at e; obtain rfl := Option.some.inj e; exact .inl ⟨rfl, by decide, by show 14 < _; omega⟩
    · obtain ⟨ty, pos, af, e⟩ := o14; rw [ho] at e; obtain rfl := Option.some.inj e; exact .inl ⟨rfl, by decide, by show 15 < _; omega⟩
  · intro i j hi hj h
    have hall : ∀ i, i < 15 → ∀ j, j < 15 → dstCS i = dstCS j → i = j := by decide +kernel
    exact hall i hi j hj h
  · intro j y w w' g hi hr hbw hbw' hk
    rcases lt15c hi with rfl | rfl | rfl | rfl | rfl | rfl | rfl | rfl | rfl | rfl | rfl | rfl | rfl | rfl | rfl
    · exact hr
    · exact hr
    · exact hr
    · exact RowC.keep hr hk
    · exact hr
    · exact hr
    · exact hr
    · exact RowC.keep hr hk
    · exact hr
    · exact hr
    · exact hr
    · exact RowC.keep hr hk
    · exact RowC.keep hr hk
    · exact RowC.keep hr hk
    · exact RowC.keep hr hk
  · intro j y hj hj2
    omega
  · intro i j b hi hi2 hj hj2 hne2 hb hb'
    omega
  · intro i o a w v g K hi ho hs hd hr hdj hbw hWw hK
    rcases lt15c hi with rfl | rfl | rfl | rfl | rfl | rfl | rfl | rfl | rfl | rfl | rfl | rfl | rfl | rfl | rfl
    · obtain ⟨ty, pos, af, e⟩ := o0; rw [ho] at e; obtain rfl := Option.some.inj e
      exact st_load28 ((hs 5 (by decide)).trans h5) (hx0.below hbw hb0) (hK _ [] _ rfl rfl hbw (Nat.le_refl _) (fun b hb => by simp at hb) (fun b hb _ => rfl))
    · obtain ⟨ty, pos, af, e⟩ := o1; rw [ho] at e; obtain rfl := Option.some.inj e
      exact st_move ((hs 3 (by decide)).trans h3) (hK _ [] _ rfl rfl hbw (Nat.le_refl _) (fun b hb => by simp at hb) (fun b hb _ => rfl))
    · obtain ⟨ty, pos, af, e⟩ := o2; rw [ho] at e; obtain rfl := Option.some.inj e
      exact st_move ((hs 4 (by decide)).trans h4) (hK _ [] _ rfl rfl hbw (Nat.le_refl _) (fun b hb => by simp at hb) (fun b hb _ => rfl))
    · obtain ⟨ty, pos, af, e⟩ := o3; rw [ho] at e; obtain rfl := Option.some.inj e
      obtain ⟨d0, s0⟩ := hd 0 (by simp [depsCS])
      have d0 : a.eval (.tmp 102) = v 0 := d0 (by decide)
      obtain ⟨d1, s1⟩ := hd 1 (by simp [depsCS])
      have d1 : a.eval (.tmp 103) = v 1 := d1 (by decide)
      obtain ⟨d2, s2⟩ := hd 2 (by simp [depsCS])
      have d2 : a.eval (.tmp 104) = v 2 := d2 (by decide)
      refine st_callS (B := W.heap.size) (d0.trans s0) (d1.trans s1) (d2.trans s2) hWw (hr0.below hbw) (fun O c w' how hb' => hK _ (Value.slice O (sysL m0 st pk).length c).ownBlock.toList w' trivial ⟨O, c, rfl, rfl, own_base0 how hWw⟩ (hbw.trans (hb'.mono hWw)) hb'.size (fun b hb => ?_) (fun b hb _ => hb'.block b hb))
      have := how.lt b (by simpa using hb)
      exact ⟨.inr this.1, this.2⟩
    · obtain ⟨ty, pos, af, e⟩ := o4; rw [ho] at e; obtain rfl := Option.some.inj e
      exact st_load28 ((hs 11 (by decide)).trans h11) (hx1.below hbw hb1) (hK _ [] _ rfl rfl hbw (Nat.le_refl _) (fun b hb => by simp at hb) (fun b hb _ => rfl))
    · obtain ⟨ty, pos, af, e⟩ := o5; rw [ho] at e; obtain rfl := Option.some.inj e
      exact st_move ((hs 3 (by decide)).trans h3) (hK _ [] _ rfl rfl hbw (Nat.le_refl _) (fun b hb => by simp at hb) (fun b hb _ => rfl))
    · obtain ⟨ty, pos, af, e⟩ := o6; rw [ho] at e; obtain rfl := Option.some.inj e
      exact st_move ((hs 4 (by decide)).trans h4) (hK _ [] _ rfl rfl hbw (Nat.le_refl _) (fun b hb => by simp at hb) (fun b hb _ => rfl))
    · obtain ⟨ty, pos, af, e⟩ := o7; rw [ho] at e; obtain rfl := Option.some.inj e
      obtain ⟨d4, s4⟩ := hd 4 (by simp [depsCS])
      have d4 : a.eval (.tmp 106) = v 4 := d4 (by decide)
      obtain ⟨d5, s5⟩ := hd 5 (by simp [depsCS])
      have d5 : a.eval (.tmp 107) = v 5 := d5 (by decide)
      obtain ⟨d6, s6⟩ := hd 6 (by simp [depsCS])
      have d6 : a.eval (.tmp 108) = v 6 := d6 (by decide)
      refine st_callS (B := W.heap.size) (d4.trans s4) (d5.trans s5) (d6.trans s6) hWw (hr1.below hbw) (fun O c w' how hb' => hK _ (Value.slice O (sysL m1 st pk).length c).ownBlock.toList w' trivial ⟨O, c, rfl, rfl, own_base0 how hWw⟩ (hbw.trans (hb'.mono hWw)) hb'.size (fun b hb => ?_) (fun b hb _ => hb'.block b hb))
      have := how.lt b (by simpa using hb)
      exact ⟨.inr this.1, this.2⟩
    · obtain ⟨ty, pos, af, e⟩ := o8; rw [ho] at e; obtain rfl := Option.some.inj e
      exact st_load28 ((hs 12 (by decide)).trans h12) (hx2.below hbw hb2) (hK _ [] _ rfl rfl hbw (Nat.le_refl _) (fun b hb => by simp at hb) (fun b hb _ => rfl))
    · obtain ⟨ty, pos, af, e⟩ := o9; rw [ho] at e; obtain rfl := Option.some.inj e
      exact st_move ((hs 3 (by decide)).trans h3) (hK _ [] _ rfl rfl hbw (Nat.le_refl _) (fun b hb => by simp at hb) (fun b hb _ => rfl))
    · obtain ⟨ty, pos, af, e⟩ := o10; rw [ho] at e; obtain rfl := Option.some.inj e
      exact st_move ((hs 4 (by decide)).trans h4) (hK _ [] _ rfl rfl hbw (Nat.le_refl _) (fun b hb => by simp at hb) (fun b hb _ => rfl))
    · obtain ⟨ty, pos, af, e⟩ := o11; rw [ho] at e; obtain rfl := Option.some.inj e
      obtain ⟨d8, s8⟩ := hd 8 (by simp [depsCS])
      have d8 : a.eval (.tmp 110) = v 8 := d8 (by decide)
      obtain ⟨d9, s9⟩ := hd 9 (by simp [depsCS])
      have d9 : a.eval (.tmp 111) = v 9 := d9 (by decide)
      obtain ⟨d10, s10⟩ := hd 10 (by simp [depsCS])
      have d10 : a.eval (.tmp 112) = v 10 := d10 (by decide)
      refine st_callS (B := W.heap.size) (d8.trans s8) (d9.trans s9) (d10.trans s10) hWw (hr2.below hbw) (fun O c w' how hb' => hK _ (Value.slice O (sysL m2 st pk).length c).ownBlock.toList w' trivial ⟨O, c, rfl, rfl, own_base0 how hWw⟩ (hbw.trans (hb'.mono hWw)) hb'.size (fun b hb => ?_) (fun b hb _ => hb'.block b hb))
      have := how.lt b (by simpa using hb)
      exact ⟨.inr this.1, this.2⟩
    · obtain ⟨ty, pos, af, e⟩ := o12; rw [ho] at e; obtain rfl := Option.some.inj e
      obtain ⟨d3, s3⟩ := hd 3 (by simp [depsCS])
      have d3 : a.eval (.tmp 105) = v 3 := d3 (by decide)
      obtain ⟨r, q2⟩ := hr 3 (.inl (by simp [eatsCS]))
      exact st_assign6 d3 (hK _ (g 3) _ trivial r hbw (Nat.le_refl _) (fun b hb => ⟨.inl ⟨3, by simp [eatsCS], hb⟩, (q2 b hb).2⟩) (fun b hb _ => rfl))
    · obtain ⟨ty, pos, af, e⟩ := o13; rw [ho] at e; obtain rfl := Option.some.inj e
      obtain ⟨d7, s7⟩ := hd 7 (by simp [depsCS])
      have d7 : a.eval (.tmp 109) = v 7 := d7 (by decide)
      obtain ⟨r, q2⟩ := hr 7 (.inl (by simp [eatsCS]))
      exact st_assign6 d7 (hK _ (g 7) _ trivial r hbw (Nat.le_refl _) (fun b hb => ⟨.inl ⟨7, by simp [eatsCS], hb⟩, (q2 b hb).2⟩) (fun b hb _ => rfl))
    · obtain ⟨ty, pos, af, e⟩ := o14; rw [ho] at e; obtain rfl := Option.some.inj e
      obtain ⟨d11, s11⟩ := hd 11 (by simp [depsCS])
      have d11 : a.eval (.tmp 113) = v 11 := d11 (by decide)
      obtain ⟨r, q2⟩ := hr 11 (.inl (by simp [eatsCS]))
      exact st_assign6 d11 (hK _ (g 11) _ trivial r hbw (Nat.le_refl _) (fun b hb => ⟨.inl ⟨11, by simp [eatsCS], hb⟩, (q2 b hb).2⟩) (fun b hb _ => rfl))
  · intro u g w hS hR hD hbw hWw
    have hall : ∀ j ∈ [12, 13, 14], ∀ e, e < 15 → j ∉ eatsCS e := by decide +kernel
    obtain ⟨⟨Oa, ca, ea, _, oa⟩, _⟩ := hR 12 (by omega) (fun e he => hall _ (by simp) e he)
    obtain ⟨⟨Ob, cb, eb, _, ob⟩, _⟩ := hR 13 (by omega) (fun e he => hall _ (by simp) e he)
    obtain ⟨⟨Od, cd, ed, _, od⟩, _⟩ := hR 14 (by omega) (fun e he => hall _ (by simp) e he)
    exact hend u Oa Ob Od ca cb cd w ea eb ed (rif_own oa) (rif_own ob) (rif_own od) hbw
end Go.Proofs.Ytohegmnfmomjaaa
