/- 'm.Env, m.Sys = []Command{e}, []Command{s}' in a region that draws its order. -/
import Derived.Test.YtohegmnfmomjaaaCGuardsA
import Derived.Test.YtohegmnfmomjaaaCDevG
namespace Go.Proofs.Ytohegmnfmomjaaa
open Go.RowKit Ex
set_option linter.unusedSimpArgs false
set_option linter.unusedVariables false

def dstY : Nat → Nat
  | 0 => 62
  | 1 => 63
  | 2 => 64
  | 3 => 65
  | 4 => 66
  | 5 => 1005
  | 6 => 67
  | 7 => 1007
  | k + 8 => 1008 + k
def depsY : Nat → List Nat
  | 1 => [0]
  | 3 => [2]
  | 5 => [4, 1]
  | 7 => [6, 3, 5]
  | _ => []
def eatsY : Nat → List Nat
  | 5 => [1, 8]
  | 7 => [3, 5]
  | _ => []
def readsY : Nat → List Nat
  | 0 => [9]
  | 2 => [10]
  | _ => []
def SY (nb : Nat) (eO : Option Addr) (en ec : Nat) (sO : Option Addr) (sn sc : Nat) : Nat → Value → Prop
  | 0, v => v = .agg #[.int .i64 2, .int .i64 1, .slice none 0 0, .slice eO en ec]
  | 2, v => v = .agg #[.int .i64 2, .int .i64 1, .slice none 0 0, .slice sO sn sc]
  | 4, v => v = .pointer (some ⟨nb, 7, none⟩)
  | 6, v => v = .pointer (some ⟨nb, 8, none⟩)
  | _, _ => True
def RY (nb eb sb : Nat) (bs : List Nat) (W : World) (x : M8) (eO : Option Addr) (en ec : Nat) (sO : Option Addr) (sn sc : Nat) : Nat → Value → World → List Nat → Prop
  | 1, v, w, gi => ∃ g, gi = [g] ∧ v = .slice (some ⟨g, 0, none⟩) 1 1 ∧ w.heap[g]? = some (.cells #[.int .i64 2, .int .i64 1, .slice none 0 0, .slice eO en ec] 31 (0, 0))
  | 3, v, w, gi => ∃ g, gi = [g] ∧ v = .slice (some ⟨g, 0, none⟩) 1 1 ∧ w.heap[g]? = some (.cells #[.int .i64 2, .int .i64 1, .slice none 0 0, .slice sO sn sc] 31 (0, 0))
  | 5, _, w, gi => ∃ ga, gi = [nb, ga] ∧ w.rowIs nb 28 12 (fun i => if i = 7 then .slice (some ⟨ga, 0, none⟩) 1 1 else mV x i) ∧ w.heap[ga]? = some (.cells #[.int .i64 2, .int .i64 1, .slice none 0 0, .slice eO en ec] 31 (0, 0))
  | 7, _, w, gi => ∃ ga gb, gi = [nb, ga, gb] ∧ w.rowIs nb 28 12 (fun i => if i = 8 then .slice (some ⟨gb, 0, none⟩) 1 1 else if i = 7 then .slice (some ⟨ga, 0, none⟩) 1 1 else mV x i) ∧ w.heap[ga]? = some (.cells #[.int .i64 2, .int .i64 1, .slice none 0 0, .slice eO en ec] 31 (0, 0)) ∧ w.heap[gb]? = some (.cells #[.int .i64 2, .int .i64 1, .slice none 0 0, .slice sO sn sc] 31 (0, 0))
  | 8, _, w, gi => gi = [nb] ∧ w.rowIs nb 28 12 (mV x)
  | 9, _, w, gi => gi = [eb] ∧ BoxC w eb 2 1 none 0 0 eO en ec
  | 10, _, w, gi => gi = [sb] ∧ BoxC w sb 2 1 none 0 0 sO sn sc
  | 11, _, w, gi => gi = bs ∧ ∀ b ∈ bs, w.heap[b]? = W.heap[b]?
  | _, _, _, gi => gi = []
theorem lt8 {i : Nat} (h : i < 8) : i = 0 ∨ i = 1 ∨ i = 2 ∨ i = 3 ∨ i = 4 ∨ i = 5 ∨ i = 6 ∨ i = 7 := by omega
set_option maxRecDepth 100000
section
variable {a : Act} {w : World} {K : Act → World → Prop} {Q : Exit → Act → World → Prop} {d ty : Nat} {pos : String} {af : Array Edge} {eO : Option Addr} {en ec : Nat}
theorem st_load31 {t b : Nat} (he : a.eval (.tmp t) = .pointer (some ⟨b, 0, none⟩)) (hc : BoxC w b 2 1 none 0 0 eO en ec) (hK : K (a.put (some d) (.agg #[.int .i64 2, .int .i64 1, .slice none 0 0, .slice eO en ec])) w) : Oper.wp Try.prog ⟨some d, .load 31 (.tmp t), ty, pos, af, none⟩ a w K Q := by
  have he' : a.tmps[t]?.getD undef = .pointer (some ⟨b, 0, none⟩) := by simpa [Act.eval] using he
  obtain ⟨c0, c1, c2, c3⟩ := hc
  refine wp_val ?_ hK
  simp only [execOp]
  go_simp
theorem st_one31 {t : Nat} (he : a.eval (.tmp t) = .agg #[.int .i64 2, .int .i64 1, .slice none 0 0, .slice eO en ec]) (hK : K (a.put (some d) (.slice (some ⟨w.heap.size, 0, none⟩) 1 1)) (w.alloc (.cells #[.int .i64 2, .int .i64 1, .slice none 0 0, .slice eO en ec] 31))) : Oper.wp Try.prog ⟨some d, .buildSlice 26 1 #[(0, .tmp t)], ty, pos, af, none⟩ a w K Q := by
  have he' : a.tmps[t]?.getD undef = .agg #[.int .i64 2, .int .i64 1, .slice none 0 0, .slice eO en ec] := by simpa [Act.eval] using he
  refine wp_val ?_ hK
  simp only [execOp]
  go_simp
end
set_option maxHeartbeats 2000000 in
theorem any_region {id nb eb sb base : Nat} {bs : List Nat} {ops : Array Oper} {Q : Exit → Act → World → Prop} {a0 : Act} {W : World} {x : M8} {eO : Option Addr} {en ec : Nat} {sO : Option Addr} {sn sc : Nat}
    (hm : Try.prog.follows .mixedOrders = true) (hsz : ops.size = 8) (hac : ownAc ops = true) (hdep : ownDeps ops depsY = true)
    (o0 : ∃ ty pos af, ops[0]? = some ⟨some 62, .load 31 (.tmp 7), ty, pos, af, none⟩)
    (o1 : ∃ ty pos af, ops[1]? = some ⟨some 63, .buildSlice 26 1 #[(0, .tmp 62)], ty, pos, af, none⟩)
    (o2 : ∃ ty pos af, ops[2]? = some ⟨some 64, .load 31 (.tmp 8), ty, pos, af, none⟩)
    (o3 : ∃ ty pos af, ops[3]? = some ⟨some 65, .buildSlice 26 1 #[(0, .tmp 64)], ty, pos, af, none⟩)
    (o4 : ∃ ty pos af, ops[4]? = some ⟨some 66, .fieldAddr 28 (.tmp 3) 3, ty, pos, af, none⟩)
    (o5 : ∃ ty pos af, ops[5]? = some ⟨none, .store 26 (.tmp 66) (.tmp 63), ty, pos, af, none⟩)
    (o6 : ∃ ty pos af, ops[6]? = some ⟨some 67, .fieldAddr 28 (.tmp 3) 4, ty, pos, af, none⟩)
    (o7 : ∃ ty pos af, ops[7]? = some ⟨none, .store 26 (.tmp 67) (.tmp 65), ty, pos, af, none⟩)
    (hts : 68 ≤ a0.tmps.size) (h3 : a0.eval (.tmp 3) = .pointer (some ⟨nb, 0, none⟩)) (h7 : a0.eval (.tmp 7) = .pointer (some ⟨eb, 0, none⟩)) (h8 : a0.eval (.tmp 8) = .pointer (some ⟨sb, 0, none⟩))
    (hbe : BoxC W eb 2 1 none 0 0 eO en ec) (hbs : BoxC W sb 2 1 none 0 0 sO sn sc) (hrow : W.rowIs nb 28 12 (mV x)) (hnb : base ≤ nb ∧ nb < W.heap.size) (heb : nb < eb ∧ eb < W.heap.size) (hsb : eb < sb ∧ sb < W.heap.size) (hbb : ∀ b ∈ bs, sb < b ∧ b < W.heap.size) (hbase : base ≤ W.heap.size)
    (hend : ∀ (u : Nat → Value) (ga gb : Nat) (w : World), w.rowIs nb 28 12 (fun i => if i = 8 then .slice (some ⟨gb, 0, none⟩) 1 1 else if i = 7 then .slice (some ⟨ga, 0, none⟩) 1 1 else mV x i) → w.heap[ga]? = some (.cells #[.int .i64 2, .int .i64 1, .slice none 0 0, .slice eO en ec] 31 (0, 0)) → w.heap[gb]? = some (.cells #[.int .i64 2, .int .i64 1, .slice none 0 0, .slice sO sn sc] 31 (0, 0)) → (∀ b ∈ bs, w.heap[b]? = W.heap[b]?) → Below base W w → Q .normal (sel [62, 63, 64, 65, 66, 67] a0 u) w) :
    (Code.region id ops true).wp Try.prog Q a0 W := by
  refine region_res (n := 8) (N := 12) (base := base) [62, 63, 64, 65, 66, 67] dstY depsY eatsY readsY (fun j => if j = 8 then [nb] else if j = 9 then [eb] else if j = 10 then [sb] else bs) (SY nb eO en ec sO sn sc) (RY nb eb sb bs W x eO en ec sO sn sc) hm hsz (by omega) hac hdep hbase ?_ ?_ ?_ ?_ ?_ ?_ ?_ ?_ ?_ ?_ ?_
  · intro i j hi h
    rcases lt8 hi with rfl | rfl | rfl | rfl | rfl | rfl | rfl | rfl <;> simp [eatsY, readsY, depsY] at h ⊢ <;> omega
  · intro i i' j hi hi' h h'
    rcases lt8 hi with rfl | rfl | rfl | rfl | rfl | rfl | rfl | rfl <;> simp [eatsY] at h <;> rcases lt8 hi' with rfl | rfl | rfl | rfl | rfl | rfl | rfl | rfl <;> simp [eatsY] at h' <;> omega
  · intro i e j hi he h h'
    rcases lt8 hi with rfl | rfl | rfl | rfl | rfl | rfl | rfl | rfl <;> simp [readsY] at h <;> rcases lt8 he with rfl | rfl | rfl | rfl | rfl | rfl | rfl | rfl <;> simp [eatsY] at h' <;> omega
  · intro i j hi h
    rcases lt8 hi with rfl | rfl | rfl | rfl | rfl | rfl | rfl | rfl <;> simp [depsY] at h <;> omega
  · intro i o ho
    have hi : i < 8 := by rw [← hsz]; exact (Array.getElem?_eq_some_iff.1 ho).1
    rcases lt8 hi with rfl | rfl | rfl | rfl | rfl | rfl | rfl | rfl
    · obtain ⟨ty, pos, af, e⟩ := o0; rw [ho] at e; obtain rfl := Option.some.inj e; exact .inl ⟨rfl, by decide, by show 62 < _; omega⟩
    · obtain ⟨ty, pos, af, e⟩ := o1; rw [ho] at e; obtain rfl := Option.some.inj e; exact .inl ⟨rfl, by decide, by show 63 < _; omega⟩
    · obtain ⟨ty, pos, af, e⟩ := o2; rw [ho] at e; obtain rfl := Option.some.inj e; exact .inl ⟨rfl, by decide, by show 64 < _; omega⟩
    · obtain ⟨ty, pos, af, e⟩ := o3; rw [ho] at e; obtain rfl := Option.some.inj e; exact .inl ⟨rfl, by decide, by show 65 < _; omega⟩
    · obtain ⟨ty, pos, af, e⟩ := o4; rw [ho] at e; obtain rfl := Option.some.inj e; exact .inl ⟨rfl, by decide, by show 66 < _; omega⟩
    · obtain ⟨ty, pos, af, e⟩ := o5; rw [ho] at e; obtain rfl := Option.some.inj e; exact .inr ⟨rfl, by decide⟩
    · obtain ⟨ty, pos, af, e⟩ := o6; rw [ho] at e; obtain rfl := Option.some.inj e; exact .inl ⟨rfl, by decide, by show 67 < _; omega⟩
    · obtain ⟨ty, pos, af, e⟩ := o7; rw [ho] at e; obtain rfl := Option.some.inj e; exact .inr ⟨rfl, by decide⟩
  · intro i j hi hj h
    have hd : ∀ k, k < 12 → dstY k = [62, 63, 64, 65, 66, 1005, 67, 1007, 1008, 1009, 1010, 1011].getD k 0 := fun k hk => by
      rcases lt12 hk with rfl | rfl | rfl | rfl | rfl | rfl | rfl | rfl | rfl | rfl | rfl | rfl <;> rfl
    rw [hd i hi, hd j hj] at h
    have hall : ∀ i, i < 12 → ∀ j, j < 12 → [62, 63, 64, 65, 66, 1005, 67, 1007, 1008, 1009, 1010, 1011].getD i 0 = [62, 63, 64, 65, 66, 1005, 67, 1007, 1008, 1009, 1010, 1011].getD j 0 → i = j := by decide +kernel
    exact hall i hi j hj h
  · intro j y w w' g hj hr hbw hbw' hk
    rcases lt12 hj with rfl | rfl | rfl | rfl | rfl | rfl | rfl | rfl | rfl | rfl | rfl | rfl
    · exact hr
    · obtain ⟨g1', rfl, h, h'⟩ := hr; exact ⟨g1', rfl, h, (hk _ (by simp)).trans h'⟩
    · exact hr
    · obtain ⟨g1', rfl, h, h'⟩ := hr; exact ⟨g1', rfl, h, (hk _ (by simp)).trans h'⟩
    · exact hr
    · obtain ⟨ga, rfl, h, h'⟩ := hr; exact ⟨ga, rfl, h.of_block (hk _ (by simp)), (hk _ (by simp)).trans h'⟩
    · exact hr
    · obtain ⟨ga, gb, rfl, h, h', h''⟩ := hr; exact ⟨ga, gb, rfl, h.of_block (hk _ (by simp)), (hk _ (by simp)).trans h', (hk _ (by simp)).trans h''⟩
    · obtain ⟨rfl, h⟩ := hr; exact ⟨rfl, h.of_block (hk _ (by simp))⟩
    · obtain ⟨rfl, h1, h2, h3, h4⟩ := hr; exact ⟨rfl, (World.cell?_of_block (hk _ (by simp))).trans h1, (World.cell?_of_block (hk _ (by simp))).trans h2, (World.cell?_of_block (hk _ (by simp))).trans h3, (World.cell?_of_block (hk _ (by simp))).trans h4⟩
    · obtain ⟨rfl, h1, h2, h3, h4⟩ := hr; exact ⟨rfl, (World.cell?_of_block (hk _ (by simp))).trans h1, (World.cell?_of_block (hk _ (by simp))).trans h2, (World.cell?_of_block (hk _ (by simp))).trans h3, (World.cell?_of_block (hk _ (by simp))).trans h4⟩
    · obtain ⟨rfl, h⟩ := hr; exact ⟨rfl, fun b hb => (hk b hb).trans (h b hb)⟩
  · intro j y hj hj2
    have h : j = 8 ∨ j = 9 ∨ j = 10 ∨ j = 11 := by omega
    rcases h with rfl | rfl | rfl | rfl
    · exact ⟨trivial, ⟨rfl, hrow⟩, fun b hb => by simp at hb; subst hb; exact hnb⟩
    · exact ⟨trivial, ⟨rfl, hbe⟩, fun b hb => by simp at hb; subst hb; omega⟩
    · exact ⟨trivial, ⟨rfl, hbs⟩, fun b hb => by simp at hb; subst hb; omega⟩
    · exact ⟨trivial, ⟨rfl, fun _ _ => rfl⟩, fun b hb => by simp at hb; have := hbb b hb; omega⟩
  · intro i j b hi hi2 hj hj2 hne2 hb hb'
    have h : i = 8 ∨ i = 9 ∨ i = 10 ∨ i = 11 := by omega
    have h' : j = 8 ∨ j = 9 ∨ j = 10 ∨ j = 11 := by omega
    rcases h with rfl | rfl | rfl | rfl <;> rcases h' with rfl | rfl | rfl | rfl <;> simp at hb hb' <;> (first | omega | (have := hbb b hb; omega) | (have := hbb b hb'; omega))
  · intro i o a w v g K hi ho hs hd hr hdj hbw hWw hK
    have hz : base ≤ w.heap.size := by omega
    have hsz' : ∀ (b i : Nat) (u : Value), (w.setCell ⟨b, i, none⟩ u).heap.size = w.heap.size := fun b i u => by simp [World.setCell]
    rcases lt8 hi with rfl | rfl | rfl | rfl | rfl | rfl | rfl | rfl
    · obtain ⟨ty, pos, af, e⟩ := o0; rw [ho] at e; obtain rfl := Option.some.inj e
      obtain ⟨⟨_, hbx⟩, _⟩ := hr 9 (.inr (by simp [readsY]))
      exact st_load31 ((hs 7 (by decide)).trans h7) hbx (hK _ [] _ rfl rfl hbw (Nat.le_refl _) (fun b hb => by simp at hb) (fun b hb _ => rfl))
    · obtain ⟨ty, pos, af, e⟩ := o1; rw [ho] at e; obtain rfl := Option.some.inj e
      obtain ⟨e2, e3⟩ := hd 0 (by simp [depsY])
      have e2 : a.eval (.tmp 62) = v 0 := e2 (by decide)
      exact st_one31 (e2.trans e3) (hK _ [w.heap.size] _ trivial ⟨_, rfl, rfl, new_at rfl⟩ (hbw.alloc hz _) (by simp) (fun b hb => by simp at hb; subst hb; exact ⟨.inr (Nat.le_refl _), by simp⟩) (fun b hb _ => Below.heap_alloc _ _ _ hb))
    · obtain ⟨ty, pos, af, e⟩ := o2; rw [ho] at e; obtain rfl := Option.some.inj e
      obtain ⟨⟨_, hbx⟩, _⟩ := hr 10 (.inr (by simp [readsY]))
      exact st_load31 ((hs 8 (by decide)).trans h8) hbx (hK _ [] _ rfl rfl hbw (Nat.le_refl _) (fun b hb => by simp at hb) (fun b hb _ => rfl))
    · obtain ⟨ty, pos, af, e⟩ := o3; rw [ho] at e; obtain rfl := Option.some.inj e
      obtain ⟨e2, e3⟩ := hd 2 (by simp [depsY])
      have e2 : a.eval (.tmp 64) = v 2 := e2 (by decide)
      exact st_one31 (e2.trans e3) (hK _ [w.heap.size] _ trivial ⟨_, rfl, rfl, new_at rfl⟩ (hbw.alloc hz _) (by simp) (fun b hb => by simp at hb; subst hb; exact ⟨.inr (Nat.le_refl _), by simp⟩) (fun b hb _ => Below.heap_alloc _ _ _ hb))
    · obtain ⟨ty, pos, af, e⟩ := o4; rw [ho] at e; obtain rfl := Option.some.inj e
      exact st_field3 ((hs 3 (by decide)).trans h3) (hK _ [] _ rfl rfl hbw (Nat.le_refl _) (fun b hb => by simp at hb) (fun b hb _ => rfl))
    · obtain ⟨ty, pos, af, e⟩ := o5; rw [ho] at e; obtain rfl := Option.some.inj e
      obtain ⟨⟨ga, eg, e1, hga⟩, q2⟩ := hr 1 (.inl (by simp [eatsY]))
      obtain ⟨⟨er, hrw⟩, q5⟩ := hr 8 (.inl (by simp [eatsY]))
      have hgg := hdj 1 8 ga (.inl (by simp [eatsY])) (.inl (by simp [eatsY])) (by omega) (by rw [eg]; simp)
      rw [er] at hgg
      have hgn : ga ≠ nb := fun h => hgg (by rw [h]; simp)
      obtain ⟨q6, q7⟩ := q5 nb (by rw [er]; simp)
      obtain ⟨q8, q9⟩ := q2 ga (by rw [eg]; simp)
      obtain ⟨e2, e3⟩ := hd 4 (by simp [depsY])
      obtain ⟨e4, _⟩ := hd 1 (by simp [depsY])
      have e2 : a.eval (.tmp 66) = v 4 := e2 (by decide)
      have e4 : a.eval (.tmp 63) = v 1 := e4 (by decide)
      refine st_store26 (b := nb) (i := 7) (f := mV x) (e2.trans e3) (e4.trans e1) hrw (by omega) (hK undef [nb, ga] _ trivial ⟨ga, rfl, hrw.set 7 _, (Below.heap_setCell _ _ _ _ (by exact hgn)).trans hga⟩ (hbw.setCell (by exact q6) _) (Nat.le_of_eq (hsz' _ _ _).symm) (fun b hb => ?_) (fun b hb hne => Below.heap_setCell _ _ _ _ (by show b ≠ nb; exact fun h => hne 8 (by simp [eatsY]) (by rw [er, h]; simp))))
      simp at hb
      rw [hsz']
      rcases hb with rfl | rfl
      · exact ⟨.inl ⟨8, by simp [eatsY], by rw [er]; simp⟩, q7⟩
      · exact ⟨.inl ⟨1, by simp [eatsY], by rw [eg]; simp⟩, q9⟩
    · obtain ⟨ty, pos, af, e⟩ := o6; rw [ho] at e; obtain rfl := Option.some.inj e
      exact st_field4 ((hs 3 (by decide)).trans h3) (hK _ [] _ rfl rfl hbw (Nat.le_refl _) (fun b hb => by simp at hb) (fun b hb _ => rfl))
    · obtain ⟨ty, pos, af, e⟩ := o7; rw [ho] at e; obtain rfl := Option.some.inj e
      obtain ⟨⟨gb, eg, e1, hgb⟩, q2⟩ := hr 3 (.inl (by simp [eatsY]))
      obtain ⟨⟨ga, er, hrw, hga⟩, q5⟩ := hr 5 (.inl (by simp [eatsY]))
      have hgg := hdj 3 5 gb (.inl (by simp [eatsY])) (.inl (by simp [eatsY])) (by omega) (by rw [eg]; simp)
      rw [er] at hgg
      have hgn : gb ≠ nb := fun h => hgg (by rw [h]; simp)
      obtain ⟨q6, q7⟩ := q5 nb (by rw [er]; simp)
      obtain ⟨q10, q11⟩ := q5 ga (by rw [er]; simp)
      obtain ⟨q8, q9⟩ := q2 gb (by rw [eg]; simp)
      have hgan : ga ≠ nb := fun h => by
        subst h
        obtain ⟨cs, hc, _⟩ := hrw
        rw [hc] at hga
        cases hga
      obtain ⟨e2, e3⟩ := hd 6 (by simp [depsY])
      obtain ⟨e4, _⟩ := hd 3 (by simp [depsY])
      have e2 : a.eval (.tmp 67) = v 6 := e2 (by decide)
      have e4 : a.eval (.tmp 65) = v 3 := e4 (by decide)
      refine st_store26 (b := nb) (i := 8) (e2.trans e3) (e4.trans e1) hrw (by omega) (hK undef [nb, ga, gb] _ trivial ⟨ga, gb, rfl, hrw.set 8 _, (Below.heap_setCell _ _ _ _ (by exact hgan)).trans hga, (Below.heap_setCell _ _ _ _ (by exact hgn)).trans hgb⟩ (hbw.setCell (by exact q6) _) (Nat.le_of_eq (hsz' _ _ _).symm) (fun b hb => ?_) (fun b hb hne => Below.heap_setCell _ _ _ _ (by show b ≠ nb; exact fun h => hne 5 (by simp [eatsY]) (by rw [er, h]; simp))))
      simp at hb
      rw [hsz']
      rcases hb with rfl | rfl | rfl
      · exact ⟨.inl ⟨5, by simp [eatsY], by rw [er]; simp⟩, q7⟩
      · exact ⟨.inl ⟨5, by simp [eatsY], by rw [er]; simp⟩, q11⟩
      · exact ⟨.inl ⟨3, by simp [eatsY], by rw [eg]; simp⟩, q9⟩
  · intro u g w hS hR hD hbw hWw
    obtain ⟨⟨ga, gb, e1, hrow, hga, hgb⟩, _⟩ := hR 7 (by omega) (fun e he h => by rcases lt8 he with rfl | rfl | rfl | rfl | rfl | rfl | rfl | rfl <;> simp [eatsY] at h)
    exact hend u ga gb w hrow hga hgb (hR 11 (by omega) (fun e he h => by rcases lt8 he with rfl | rfl | rfl | rfl | rfl | rfl | rfl | rfl <;> simp [eatsY] at h)).1.2 hbw
end Go.Proofs.Ytohegmnfmomjaaa
