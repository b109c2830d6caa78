/- Things that lie in blocks of their own, apart from one another: what a step does to some of them leaves the others. What the reference's 'sorted' makes: each number is put in where it belongs; the same as sortI. Steps of the reference's 'sorted': parts of a row, an append to whatever row. region_own, where an operation may read a slot that a later one writes. The region of the reference's 'sorted' that lays a row anew. The reference's 'sorted'. -/
import Derived.Test.YtbppdalfcldodaaGreatGAm
import Derived.Test.YtbppdalfcldodaaGreatMRes
import Derived.Deep.Cut
import Derived.Deep.CutRange
set_option maxRecDepth 100000
namespace Go.Proofs.YtbppdalfcldodaaGreat
open Go.RowKit Ex
set_option linter.unusedSimpArgs false
set_option linter.unusedVariables false

structure Itm where
  own : List Nat
  P : World → Prop
  loc : ∀ w w' : World, (∀ k ∈ own, w'.heap[k]? = w.heap[k]?) → P w → P w'
def owns (X : List Itm) : List Nat := X.flatMap (·.own)
structure Sep (lo : Nat) (w : World) (X : List Itm) : Prop where
  all : ∀ i ∈ X, i.P w
  nd : (owns X).Nodup
  low : ∀ k ∈ owns X, lo ≤ k ∧ k < w.heap.size
section
variable {lo : Nat} {w w' : World} {X X' Y : List Itm} {i i' : Itm}
theorem owns_app : owns (X ++ Y) = owns X ++ owns Y := by simp [owns]
theorem owns_cons : owns (i :: X) = i.own ++ owns X := by simp [owns]
theorem owns_mem {k : Nat} : k ∈ owns X ↔ ∃ i ∈ X, k ∈ i.own := by simp [owns]
theorem owns_perm (p : X.Perm Y) : (owns X).Perm (owns Y) := by unfold owns; exact p.flatMap_right _
theorem Sep.perm (h : Sep lo w X) (p : X.Perm Y) : Sep lo w Y :=
  ⟨fun i hi => h.all i (p.mem_iff.2 hi), (owns_perm p).nodup_iff.1 h.nd, fun k hk => h.low k ((owns_perm p).mem_iff.2 hk)⟩
theorem Sep.frame (h : Sep lo w (X ++ Y)) (h' : Sep lo w' X') (hz : w.heap.size ≤ w'.heap.size) (hk : ∀ k, k < w.heap.size → k ∉ owns X → w'.heap[k]? = w.heap[k]?) (hn : ∀ k ∈ owns X', k ∈ owns X ∨ w.heap.size ≤ k) : Sep lo w' (X' ++ Y) := by
  have hnd := h.nd
  rw [owns_app, List.nodup_append] at hnd
  have hlow : ∀ k ∈ owns Y, lo ≤ k ∧ k < w.heap.size := fun k hk2 => h.low k (by rw [owns_app]; exact List.mem_append_right _ hk2)
  refine ⟨fun j hj => ?_, ?_, fun k hk2 => ?_⟩
  · rcases List.mem_append.1 hj with hj | hj
    · exact h'.all j hj
    · refine j.loc w w' (fun k hk2 => ?_) (h.all j (List.mem_append_right _ hj))
      have hm := owns_mem.2 ⟨j, hj, hk2⟩
      exact hk k (hlow k hm).2 (fun hx => hnd.2.2 k hx k hm rfl)
  · rw [owns_app, List.nodup_append]
    refine ⟨h'.nd, hnd.2.1, fun a ha b hb e => ?_⟩
    subst e
    rcases hn a ha with h1 | h1
    · exact hnd.2.2 a h1 a hb rfl
    · have := (hlow a hb).2; omega
  · rw [owns_app] at hk2
    rcases List.mem_append.1 hk2 with h1 | h1
    · exact h'.low k h1
    · have := hlow k h1; omega
theorem Sep.below (h : Sep lo w X) (hb : Below w.heap.size w w') : Sep lo w' X :=
  ⟨fun i hi => i.loc w w' (fun k hk => hb.block k (h.low k (owns_mem.2 ⟨i, hi, hk⟩)).2) (h.all i hi), h.nd, fun k hk => by have := h.low k hk; have := hb.size; omega⟩
theorem Sep.alloc (h : Sep lo w X) (o : Obj) : Sep lo (w.alloc o) X := h.below ((Below.refl _ _).alloc (Nat.le_refl _) _)
theorem Sep.drew (h : Sep lo w X) : Sep lo w.drew X := h.below (Below.refl _ _).drew
/- one thing alone is turned -/
theorem Sep.one (h : Sep lo w (i :: Y)) (hP : i'.P w') (hnd : i'.own.Nodup) (hlow : ∀ k ∈ i'.own, lo ≤ k ∧ k < w'.heap.size) (hz : w.heap.size ≤ w'.heap.size) (hk : ∀ k, k < w.heap.size → k ∉ i.own → w'.heap[k]? = w.heap[k]?) (hn : ∀ k ∈ i'.own, k ∈ i.own ∨ w.heap.size ≤ k) : Sep lo w' (i' :: Y) := by
  refine Sep.frame (X := [i]) (X' := [i']) (Y := Y) h ⟨fun j hj => ?_, by simpa [owns] using hnd, fun k hk2 => hlow k (by simpa [owns] using hk2)⟩ hz (fun k h1 h2 => hk k h1 (by simpa [owns] using h2)) (fun k h1 => by simpa [owns] using hn k (by simpa [owns] using h1))
  simp at hj; subst hj; exact hP
/- a new thing beside the others -/
theorem Sep.new (h : Sep lo w X) (hb : Below w.heap.size w w') (hlo : lo ≤ w.heap.size) (hP : i.P w') (hnd : i.own.Nodup) (hlow : ∀ k ∈ i.own, w.heap.size ≤ k ∧ k < w'.heap.size) : Sep lo w' (i :: X) := by
  have h2 := h.below hb
  refine ⟨fun j hj => ?_, ?_, fun k hk => ?_⟩
  · rcases List.mem_cons.1 hj with rfl | hj
    · exact hP
    · exact h2.all j hj
  · rw [owns_cons, List.nodup_append]
    refine ⟨hnd, h2.nd, fun a ha b hb2 e => ?_⟩
    subst e
    have := (hlow a ha).1; have := (h.low a hb2).2; omega
  · rw [owns_cons] at hk
    rcases List.mem_append.1 hk with h1 | h1
    · have := hlow k h1; omega
    · exact h2.low k h1
theorem Sep.nil (lo : Nat) (w : World) : Sep lo w [] := ⟨fun i hi => (by cases hi), by simp [owns], fun k hk => by simp [owns] at hk⟩
theorem Sep.head (h : Sep lo w (i :: X)) : i.P w := h.all i (by simp)
theorem Sep.tail (h : Sep lo w (i :: X)) : Sep lo w X :=
  ⟨fun j hj => h.all j (by simp [hj]), by have := h.nd; rw [owns_cons, List.nodup_append] at this; exact this.2.1, fun k hk => h.low k (by rw [owns_cons]; exact List.mem_append_right _ hk)⟩
theorem Sep.far (h : Sep lo w (i :: X)) {j : Itm} (hj : j ∈ X) {k : Nat} (hk : k ∈ j.own) : k ∉ i.own := fun h2 => by
  have := h.nd
  rw [owns_cons, List.nodup_append] at this
  exact this.2.2 k h2 k (owns_mem.2 ⟨j, hj, hk⟩) rfl
end
/- a box -/
def itBox (b : Nat) (cs : Array Value) (t : TypeId) : Itm := ⟨[b], fun w => w.heap[b]? = some (.cells cs t (0, 0)), fun w w' hk h => (hk b (by simp)).trans h⟩
/- a row of cells, one a place -/
def itRow (b : Nat) (t : TypeId) (n : Nat) (f : Nat → Value) : Itm := ⟨[b], fun w => w.rowIs b t n f, fun w w' hk h => h.of_block (hk b (by simp))⟩
/- a row that grows -/
def itOwn (base : Nat) (e : TypeId) (sz : Nat) (s : SL) (xs : List Value) : Itm := ⟨s.own, fun w => w.ownsRow base e sz s.v s.n xs, fun w w' hk h => own_keep h (fun k hh => hk k (own_mem.2 hh))⟩
/- finished rows of numbers -/
def vsOwn (vs : List Value) : List Nat := vs.flatMap fun v => v.ownBlock.toList
def IsRow (w : World) (base : Nat) (v : Value) (l : List Int) : Prop := ∃ O n c, v = .slice O n c ∧ w.ownsRow base 3 1 v n (ints l)
def itRows (base : Nat) (vs : List Value) (ls : List (List Int)) : Itm := ⟨vsOwn vs, fun w => vs.length = ls.length ∧ ∀ (j : Nat) v l, vs[j]? = some v → ls[j]? = some l → IsRow w base v l, fun w w' hk h => ⟨h.1, fun j v l hv hl => by
  obtain ⟨O, n, c, e, h2⟩ := h.2 j v l hv hl
  exact ⟨O, n, c, e, own_keep h2 (fun k hh => hk k (by
    unfold vsOwn
    exact List.mem_flatMap.2 ⟨v, List.mem_of_getElem? hv, by rw [hh]; simp⟩))⟩⟩⟩
section
variable {lo : Nat} {w w' : World} {X Y : List Itm}
theorem Sep.setBox {b j : Nat} {cs : Array Value} {t : TypeId} (h : Sep lo w (itBox b cs t :: Y)) (v : Value) : Sep lo (w.setCell ⟨b, j, none⟩ v) (itBox b (cs.setIfInBounds j v) t :: Y) := by
  have hz : (w.setCell ⟨b, j, none⟩ v).heap.size = w.heap.size := by simp [World.setCell]
  refine h.one (heap_setCell_same w b j _ t v h.head) (by simp [itBox]) (fun k hk => by rw [hz]; exact h.low k (by rw [owns_cons]; exact List.mem_append_left _ hk)) (by rw [hz]; exact Nat.le_refl _) (fun k h1 h2 => Below.heap_setCell _ _ _ _ (fun e => h2 (by simp [itBox]; exact e))) (fun k hk => .inl hk)
theorem Sep.setRow {b j n : Nat} {t : TypeId} {f f' : Nat → Value} (h : Sep lo w (itRow b t n f :: Y)) (v : Value) (hf : ∀ i, i < n → (if i = j then v else f i) = f' i) : Sep lo (w.setCell ⟨b, j, none⟩ v) (itRow b t n f' :: Y) := by
  have hz : (w.setCell ⟨b, j, none⟩ v).heap.size = w.heap.size := by simp [World.setCell]
  have h0 : w.rowIs b t n f := h.head
  refine h.one (World.rowIs.congr (h0.set j v) hf) (by simp [itRow]) (fun k hk => by rw [hz]; exact h.low k (by rw [owns_cons]; exact List.mem_append_left _ hk)) (by rw [hz]; exact Nat.le_refl _) (fun k h1 h2 => Below.heap_setCell _ _ _ _ (fun e => h2 (by simp [itRow]; exact e))) (fun k hk => .inl hk)
theorem Sep.grow {e : TypeId} {sz : Nat} {s : SL} {xs ys : List Value} {gg cap k : Nat} {w1 : World} (h : Sep lo w (itOwn lo e sz s xs :: Y)) (hb : Below w.heap.size w w1) (hg : w1.grownBy w' s.v.ownBlock) (hat : s.v.ownBlock = some gg ∨ gg = w1.heap.size)
    (hown : w'.ownsRow lo e sz (.slice (some ⟨gg, 0, none⟩) k cap) k ys) : Sep lo w' (itOwn lo e sz ⟨some ⟨gg, 0, none⟩, k, cap⟩ ys :: Y) := by
  have hz := hg.size
  have hz1 := hb.size
  have ho : ∀ k', k' ∈ (SL.mk (some ⟨gg, 0, none⟩) k cap).own → k' = gg := fun k' hk => by simpa [SL.own] using hk
  refine (h.below hb).one hown (by show (SL.own _).Nodup; simp [SL.own]) (fun k' hk => hown.lt k' (own_mem.1 hk)) hz (fun k' h1 h2 => hg.block k' h1 (fun e' => h2 (own_mem.2 e'.symm))) (fun k' hk => ?_)
  have := ho k' hk
  subst this
  rcases hat with h1 | h1
  · exact .inl (own_mem.2 h1)
  · exact .inr (by omega)
theorem vsOwn_snoc (vs : List Value) (v : Value) : vsOwn (vs ++ [v]) = vsOwn vs ++ v.ownBlock.toList := by simp [vsOwn]
/- a finished row is put to the others -/
theorem Sep.putRow {s : SL} {r : List Int} {vs : List Value} {ls : List (List Int)} (h : Sep lo w (itOwn lo 3 1 s (ints r) :: itRows lo vs ls :: Y)) : Sep lo w (itRows lo (vs ++ [s.v]) (ls ++ [r]) :: Y) := by
  have h1 : w.ownsRow lo 3 1 s.v s.n (ints r) := h.head
  obtain ⟨h2, h3⟩ : vs.length = ls.length ∧ ∀ (j : Nat) v l, vs[j]? = some v → ls[j]? = some l → IsRow w lo v l := h.tail.head
  have he : (owns (itOwn lo 3 1 s (ints r) :: itRows lo vs ls :: Y)).Perm (owns (itRows lo (vs ++ [s.v]) (ls ++ [r]) :: Y)) := by
    rw [owns_cons, owns_cons, owns_cons, ← List.append_assoc]
    refine List.Perm.append_right _ ?_
    show (s.own ++ vsOwn vs).Perm (vsOwn (vs ++ [s.v]))
    rw [vsOwn_snoc]
    have : s.v.ownBlock.toList = s.own := by obtain ⟨A, n, c⟩ := s; cases A <;> simp [SL.v, SL.own, Value.ownBlock]
    rw [this]
    exact List.perm_append_comm
  refine ⟨fun i hi => ?_, he.nodup_iff.1 h.nd, fun k hk => h.low k (he.mem_iff.2 hk)⟩
  rcases List.mem_cons.1 hi with rfl | hi
  · refine ⟨by simp [h2], fun j u l hu hl => ?_⟩
    by_cases hj : j < vs.length
    · rw [List.getElem?_append_left hj] at hu
      rw [List.getElem?_append_left (by omega)] at hl
      exact h3 j u l hu hl
    · rw [List.getElem?_append_right (by omega)] at hu
      rw [List.getElem?_append_right (by omega), ← h2] at hl
      have h0 : j - vs.length = 0 := by
        have := (List.getElem?_eq_some_iff.1 hu).1
        simp at this; omega
      rw [h0] at hu hl
      simp at hu hl
      subst hu; subst hl
      obtain ⟨A, n, c⟩ := s
      exact ⟨A, n, c, rfl, h1⟩
  · exact h.all i (by simp [hi])
end
end Go.Proofs.YtbppdalfcldodaaGreat
namespace Go.Proofs.YtbppdalfcldodaaGreat
set_option linter.unusedSimpArgs false
set_option linter.unusedVariables false

def insAt (x : Int) (l : List Int) : Nat := (l.takeWhile (fun y => decide (y < x))).length
def insL (x : Int) (l : List Int) : List Int := l.take (insAt x l) ++ [x] ++ l.drop (insAt x l)
def insAll (l : List Int) : List Int := l.foldl (fun out x => insL x out) []
theorem ins_perm (x : Int) (l : List Int) : (insL x l).Perm (l ++ [x]) := by
  have h : l = l.take (insAt x l) ++ l.drop (insAt x l) := (List.take_append_drop _ _).symm
  unfold insL
  generalize l.take (insAt x l) = a at *
  generalize l.drop (insAt x l) = b at *
  rw [h, List.append_assoc, List.append_assoc]
  exact List.Perm.append_left a List.perm_append_comm
theorem ins_up (x : Int) : ∀ {l : List Int}, l.Pairwise (· ≤ ·) → (insL x l).Pairwise (· ≤ ·)
  | [], _ => by simp [insL, insAt]
  | y :: l, h => by
    obtain ⟨h1, h2⟩ := List.pairwise_cons.1 h
    by_cases hyx : y < x
    · have e : insL x (y :: l) = y :: insL x l := by
        unfold insL
        rw [show insAt x (y :: l) = insAt x l + 1 by unfold insAt; rw [List.takeWhile_cons_of_pos (by simpa using hyx)]; rfl]
        rfl
      rw [e, List.pairwise_cons]
      refine ⟨fun z hz => ?_, ins_up x h2⟩
      rcases List.mem_append.1 ((ins_perm x l).mem_iff.1 hz) with hz | hz
      · exact h1 z hz
      · rw [List.mem_singleton.1 hz]; omega
    · have e : insL x (y :: l) = x :: y :: l := by
        unfold insL
        rw [show insAt x (y :: l) = 0 by unfold insAt; rw [List.takeWhile_cons_of_neg (by simpa using hyx)]; rfl]
        rfl
      rw [e, List.pairwise_cons]
      refine ⟨fun z hz => ?_, h⟩
      rcases List.mem_cons.1 hz with rfl | hz
      · omega
      · have := h1 z hz; omega
theorem fold_ins : ∀ (l out : List Int), out.Pairwise (· ≤ ·) → (l.foldl (fun out x => insL x out) out).Pairwise (· ≤ ·) ∧ (l.foldl (fun out x => insL x out) out).Perm (out ++ l)
  | [], out, h => ⟨h, by simp⟩
  | x :: l, out, h => by
    obtain ⟨h1, h2⟩ := fold_ins l (insL x out) (ins_up x h)
    refine ⟨h1, h2.trans ?_⟩
    have := (ins_perm x out).append_right l
    simpa using this
theorem perm_up_eq : ∀ {a b : List Int}, a.Perm b → a.Pairwise (· ≤ ·) → b.Pairwise (· ≤ ·) → a = b
  | [], b, h, _, _ => (List.nil_perm.1 h).symm ▸ rfl
  | x :: a, [], h, _, _ => absurd h.length_eq (by simp)
  | x :: a, y :: b, h, h1, h2 => by
    obtain ⟨p1, p2⟩ := List.pairwise_cons.1 h1
    obtain ⟨q1, q2⟩ := List.pairwise_cons.1 h2
    have e : x = y := by
      have hx : x ∈ y :: b := h.mem_iff.1 (by simp)
      have hy : y ∈ x :: a := h.mem_iff.2 (by simp)
      have a1 : y ≤ x := by rcases List.mem_cons.1 hx with e | e; · omega
                            · exact q1 x e
      have a2 : x ≤ y := by rcases List.mem_cons.1 hy with e | e; · omega
                            · exact p1 y e
      omega
    subst e
    rw [perm_up_eq ((List.perm_cons x).1 h) p2 q2]
theorem ins_all (l : List Int) : insAll l = sortI l := by
  obtain ⟨h1, h2⟩ := fold_ins l [] List.Pairwise.nil
  refine perm_up_eq (h2.trans ?_) h1 ?_
  · rw [List.nil_append]; exact (List.mergeSort_perm l _).symm
  · have := List.pairwise_mergeSort (le := fun x y : Int => decide (x ≤ y)) (fun a b c h1 h2 => by simp at *; omega) (fun a b => by simp; omega) l
    exact this.imp (fun h => by simpa using h)
end Go.Proofs.YtbppdalfcldodaaGreat
set_option maxRecDepth 100000
namespace Go.Proofs.YtbppdalfcldodaaGreat
open Go.RowKit Ex
set_option linter.unusedSimpArgs false
set_option linter.unusedVariables false
section
variable {a : Act} {w : World} {K : Act → World → Prop} {Q : Exit → Act → World → Prop} {d ty : Nat} {pos : String} {af : Array Edge}
theorem sl_upto {t u n c i b off : Nat} (he : a.eval (.tmp t) = .slice (some ⟨b, off, none⟩) n c) (hi : a.eval (.tmp u) = .int .i64 (i : Int)) (h1 : i ≤ n) (h2 : n ≤ c) (h3 : c ≤ maxLen) (hK : K (a.put (some d) (.slice (some ⟨b, off, none⟩) i c)) w) : Oper.wp Tryz.prog ⟨some d, .slice 32 (.tmp t) none (some (.tmp u)) none, ty, pos, af, none⟩ a w K Q := by
  have he' : a.tmps[t]?.getD undef = .slice (some ⟨b, off, none⟩) n c := by simpa [Act.eval] using he
  have hi' : a.tmps[u]?.getD undef = .int .i64 (i : Int) := by simpa [Act.eval] using hi
  unfold maxLen at h3
  refine wp_val ?_ hK
  simp only [execOp]
  go_simp
  omega
theorem sl_from {t u n c i b off : Nat} (he : a.eval (.tmp t) = .slice (some ⟨b, off, none⟩) n c) (hi : a.eval (.tmp u) = .int .i64 (i : Int)) (h1 : i ≤ n) (h2 : n ≤ c) (h3 : c ≤ maxLen) (hK : K (a.put (some d) (.slice (if c = i then some ⟨b, off, none⟩ else some ⟨b, off + i, none⟩) (n - i) (c - i))) w) : Oper.wp Tryz.prog ⟨some d, .slice 32 (.tmp t) (some (.tmp u)) none none, ty, pos, af, none⟩ a w K Q := by
  have he' : a.tmps[t]?.getD undef = .slice (some ⟨b, off, none⟩) n c := by simpa [Act.eval] using he
  have hi' : a.tmps[u]?.getD undef = .int .i64 (i : Int) := by simpa [Act.eval] using hi
  unfold maxLen at h3
  refine wp_val ?_ hK
  simp only [execOp]
  go_simp
theorem sl_upto0 {t u : Nat} (he : a.eval (.tmp t) = .slice none 0 0) (hi : a.eval (.tmp u) = .int .i64 ((0 : Nat) : Int)) (hK : K (a.put (some d) (.slice none 0 0)) w) : Oper.wp Tryz.prog ⟨some d, .slice 32 (.tmp t) none (some (.tmp u)) none, ty, pos, af, none⟩ a w K Q := by
  have he' : a.tmps[t]?.getD undef = .slice none 0 0 := by simpa [Act.eval] using he
  have hi' : a.tmps[u]?.getD undef = .int .i64 ((0 : Nat) : Int) := by simpa [Act.eval] using hi
  refine wp_val ?_ hK
  simp only [execOp]
  go_simp
theorem sl_from0 {t u : Nat} (he : a.eval (.tmp t) = .slice none 0 0) (hi : a.eval (.tmp u) = .int .i64 ((0 : Nat) : Int)) (hK : K (a.put (some d) (.slice none 0 0)) w) : Oper.wp Tryz.prog ⟨some d, .slice 32 (.tmp t) (some (.tmp u)) none none, ty, pos, af, none⟩ a w K Q := by
  have he' : a.tmps[t]?.getD undef = .slice none 0 0 := by simpa [Act.eval] using he
  have hi' : a.tmps[u]?.getD undef = .int .i64 ((0 : Nat) : Int) := by simpa [Act.eval] using hi
  refine wp_val ?_ hK
  simp only [execOp]
  go_simp
theorem info3S : ∃ i, Tryz.prog.info? 3 = some i ∧ i.zero = some (.int .i64 0) ∧ i.size = 1 ∧ i.bytes = 8 := by
  have h : (Tryz.prog.info? 3).map (fun i => (i.zero, i.size, i.bytes)) = some (some (.int .i64 0), 1, 8) := by kernel_rfl
  cases hi : Tryz.prog.info? 3 with
  | none => rw [hi] at h; cases h
  | some i =>
    rw [hi] at h
    simp at h
    exact ⟨i, rfl, h.1, h.2.1, h.2.2⟩
set_option maxHeartbeats 2000000 in
theorem app_nil {s x : Operand} {c : Nat} {A : Option Addr} (hs : a.eval s = .slice none 0 0) (hx : a.eval x = .slice A 0 c) (hK : K (a.put (some d) (.slice none 0 0)) w) :
    Oper.wp Tryz.prog ⟨some d, .call { callee := .builtin .append, args := #[s, x], argTypes := #[32, 32] }, ty, pos, af, none⟩ a w K Q := by
  refine wp_val (v := .slice none 0 0) ?_ hK
  cases A
  all_goals cases s
  all_goals cases x
  all_goals simp [Act.eval] at hs hx
  all_goals
    (try subst hs)
    (try subst hx)
    simp only [execOp]
    go_simp
/- an append of numbers to a row of ones own (or nil), whatever is appended: a row, nil, or an empty one -/
set_option maxHeartbeats 2000000 in
theorem app_ints {s x : Operand} {lo k m c : Nat} {v : Value} {xs ys : List Int} {A : Option Addr} (hs : a.eval s = v) (hx : a.eval x = .slice A m c) (hown : w.ownsRow lo 3 1 v k (ints xs)) (hy : Gr.RI w w.heap.size ⟨A, m, c⟩ ys) (hk : k + m ≤ 1000000) (hlo : lo ≤ w.heap.size)
    (hK : ∀ v' w', w'.ownsRow lo 3 1 v' (k + m) (ints (xs ++ ys)) → w.grownBy w' v.ownBlock → (∀ z, v'.ownBlock = some z → v.ownBlock = some z ∨ z = w.heap.size) → K (a.put (some d) v') w') :
    Oper.wp Tryz.prog ⟨some d, .call { callee := .builtin .append, args := #[s, x], argTypes := #[32, 32] }, ty, pos, af, none⟩ a w K Q := by
  obtain ⟨i0, hi0, hz0, hz1, hz2⟩ := info3S
  have hyl := hy.len
  simp only at hyl
  have hin : (ints ys).length = m * 1 := by simp [ints, hyl]
  have h1 : ∀ u ∈ ints ys, u.oneCell' = true := fun u hu => by
    obtain ⟨q, _, rfl⟩ := List.mem_map.1 hu
    rfl
  have hcells : ∀ ad, A = some ad → ∀ (j : Nat) u, (ints ys)[j]? = some u → w.cell? (ad.add j) = some u := fun ad e j u hu => by
    subst e
    have hj : j < m := by
      have := (List.getElem?_eq_some_iff.1 hu).1
      rw [hin] at this; omega
    obtain ⟨b, off, q, e2, hb, hq, hc⟩ := Gr.RI.at_ hy hj
    injection e2 with e2
    subst e2
    have : u = .int .i64 q := by
      unfold ints at hu
      rw [List.getElem?_map, hq] at hu
      simpa using hu.symm
    subst this
    unfold Addr.add
    by_cases h0 : j = 0
    · subst h0; simpa using hc
    · simp [h0]; exact hc
  rcases hown.2 with ⟨e1, e2, e3⟩ | ⟨g, cap, cur, e1, h3⟩
  · subst e1
    by_cases hm : m = 0
    · subst hm
      have hy0 : ys = [] := List.eq_nil_of_length_eq_zero hyl
      subst hy0
      exact app_nil hs hx (hK _ w (by simpa using hown) (World.grownBy.refl _ _) (fun z hz => .inl hz))
    · cases A with
      | none => exact absurd (by have := hy.2.2.2.2 rfl; have := hy.2.1; simp only at *; omega) hm
      | some ad =>
        refine wp_append_lies w s x 32 rfl lo 3 i0 _ 1 8 Tryz.underlying32 hi0 hz0 hz1 hz2 rfl (by omega) (.slice none 0 0) 0 (ints xs) hs hown ad m c (ints ys) hx hin (hcells ad rfl) h1 (by omega) (by unfold maxLen; omega) (by omega) hlo _ rfl ?_
        intro gg cap w' hown' hgrow hat hlt
        refine hK _ w' (by rw [show ints (xs ++ ys) = ints xs ++ ints ys by simp [ints]]; exact hown') hgrow (fun z hz => ?_)
        simp [Value.ownBlock] at hz
        subst hz
        exact hat
  · subst e1
    refine wp_append_row s x 32 rfl lo 3 i0 _ 1 8 Tryz.underlying32 hi0 hz0 hz1 hz2 rfl (by omega) g k cap (ints xs) hs hown A m c (ints ys) hx hin (fun e => by have := hy.2.2.2.2 e; have := hy.2.1; simp only at *; omega) hcells h1 (by unfold maxLen; omega) (by omega) hlo ?_
    intro g' cap' w' hown' hgrow hg' hlt
    refine hK _ w' (by rw [show ints (xs ++ ys) = ints xs ++ ints ys by simp [ints]]; exact hown') hgrow (fun z hz => ?_)
    simp [Value.ownBlock] at hz
    subst hz
    rcases hg' with h | h
    · exact .inl (by rw [h]; rfl)
    · exact .inr h
end
end Go.Proofs.YtbppdalfcldodaaGreat
namespace Go.Proofs.YtbppdalfcldodaaGreat
open Go.RowKit Ex
set_option linter.unusedSimpArgs false
set_option linter.unusedVariables false

theorem region_own2 {id n : Nat} {ops : Array Oper} {Q : Exit → Act → World → Prop} {a0 : Act} {W : World} (σ : List Nat) (dst : Nat → Nat) (deps eats reads : Nat → List Nat) (own : Nat → Bool)
    (S : Nat → Value → Nat → Prop) (R : Nat → Value → World → Nat → Prop)
    (hm : Tryz.prog.follows .mixedOrders = true) (hsz : ops.size = n) (hac : ownAc ops = true) (hdep : ownDeps ops deps = true)
    (hsub : ∀ i j, i < n → j ∈ eats i ∨ j ∈ reads i → j ∈ deps i ∧ j < n)
    (huniq : ∀ i i' j, i < n → i' < n → j ∈ eats i → j ∈ eats i' → i = i')
    (hread : ∀ i e j, i < n → e < n → j ∈ reads i → j ∈ eats e → i ∈ deps e)
    (hlt : ∀ i j, i < n → j ∈ deps i → j < i)
    (hdst : ∀ i o, ops[i]? = some o → (o.dst = some (dst i) ∧ dst i ∈ σ ∧ dst i < a0.tmps.size) ∨ (o.dst = none ∧ dst i ∉ σ))
    (hinj : ∀ i j, i < n → j < n → dst i = dst j → i = j)
    (hR : ∀ j x w w' g, j < n → R j x w g → Below W.heap.size W w → Below W.heap.size W w' → (own j = true → w'.heap[g]? = w.heap[g]?) → R j x w' g)
    (hstep : ∀ i o (a : Act) (w : World) (v : Nat → Value) (g : Nat → Nat) (K : Act → World → Prop), i < n → ops[i]? = some o →
      (∀ s, s ∉ σ → a.eval (.tmp s) = a0.eval (.tmp s)) →
      (∀ j, j < n → i ∈ deps j → dst j ∈ σ → a.eval (.tmp (dst j)) = a0.eval (.tmp (dst j))) →
      (∀ j ∈ deps i, (dst j ∈ σ → a.eval (.tmp (dst j)) = v j) ∧ S j (v j) (g j)) →
      (∀ j, j ∈ eats i ∨ j ∈ reads i → R j (v j) w (g j) ∧ (own j = true → W.heap.size ≤ g j ∧ g j < w.heap.size)) →
      Below W.heap.size W w →
      (∀ x gi w', S i x gi → R i x w' gi → Below W.heap.size W w' → w.heap.size ≤ w'.heap.size → (own i = true → ((∃ j ∈ eats i, own j = true ∧ gi = g j) ∨ w.heap.size ≤ gi) ∧ gi < w'.heap.size) →
        (∀ b, b < w.heap.size → (∀ j ∈ eats i, own j = true → b ≠ g j) → w'.heap[b]? = w.heap[b]?) → K (a.put o.dst x) w') →
      Oper.wp Tryz.prog o a w K Q)
    (hend : ∀ (u : Nat → Value) (g : Nat → Nat) (w : World), (∀ j, j < n → S j (u (dst j)) (g j)) → (∀ j, j < n → (∀ e, e < n → j ∉ eats e) → R j (u (dst j)) w (g j) ∧ (own j = true → W.heap.size ≤ g j ∧ g j < w.heap.size)) →
      (∀ i j, i < n → j < n → i ≠ j → own i = true → own j = true → (∀ e, e < n → i ∉ eats e) → (∀ e, e < n → j ∉ eats e) → g i ≠ g j) →
      Below W.heap.size W w → Q .normal (sel σ a0 u) w) :
    (Code.region id ops true).wp Tryz.prog Q a0 W := by
  have hac1 : ∀ (j : Nat) (o : Oper), ops[j]? = some o → ∀ e ∈ o.after, Region.binds .any e = true → e.on < j := fun j o ho => (ownAc_spec hac j o ho).1
  have hdp := ownDeps_spec hdep
  refine wp_region_any hm (wpAny_inv (I := fun listed a w => Below W.heap.size W w ∧ ∃ (u : Nat → Value) (g : Nat → Nat), a = sel σ a0 u ∧
    (∀ j, j < n → listed.getD j false = true → S j (u (dst j)) (g j)) ∧
    (∀ j, j < n → listed.getD j false = true → (∀ e, e < n → j ∈ eats e → listed.getD e false = false) → R j (u (dst j)) w (g j) ∧ (own j = true → W.heap.size ≤ g j ∧ g j < w.heap.size)) ∧
    (∀ i j, i < n → j < n → i ≠ j → own i = true → own j = true → listed.getD i false = true → listed.getD j false = true → (∀ e, e < n → i ∈ eats e → listed.getD e false = false) → (∀ e, e < n → j ∈ eats e → listed.getD e false = false) → g i ≠ g j) ∧
    (∀ i j, i < n → listed.getD i false = true → j ∈ deps i → listed.getD j false = true) ∧ (∀ j, j < n → listed.getD j false = false → u (dst j) = a0.tmps.getD (dst j) undef)) ?_ ?_ _ _ _ _ (by simp) (by rw [Array.countP_replicate]; simp) ?_)
  · rintro listed a w i hs ⟨hbw, u, g, rfl, h1, h2, h3, h4, h5⟩ hi
    obtain ⟨hl0, o, ho, hd⟩ := mem_ready.1 hi
    have hio : i < ops.size := (Array.getElem?_eq_some_iff.1 ho).1
    have hin : i < n := by omega
    have hilt : i < listed.size := by omega
    have hil : listed.getD i false = false := by
      simp [Array.getD, hilt] at hl0 ⊢; exact hl0
    have hgd := (ownAc_spec hac i o ho).2
    have hdl : ∀ j ∈ deps i, listed.getD j false = true := fun j hj => by
      obtain ⟨e, he, rfl, hb⟩ := hdp i o ho j hj
      exact hd e he hb
    have hset : ∀ k, k ≠ i → (listed.setIfInBounds i true).getD k false = listed.getD k false := fun k hk => by
      have hk' : ¬ i = k := fun e => hk e.symm
      by_cases hks : k < listed.size
      · simp [Array.getD, hks, Array.getElem_setIfInBounds, hk']
      · simp [Array.getD, hks]
    have hsi : (listed.setIfInBounds i true).getD i false = true := by simp [Array.getD, hilt]
    have hlive : ∀ j, j ∈ eats i ∨ j ∈ reads i → ∀ e, e < n → j ∈ eats e → listed.getD e false = false := fun j hj e he hje => by
      rcases hj with hj | hj
      · have := huniq i e j hin he hj hje
        subst this; exact hil
      · have := hread i e j hin he hj hje
        cases hle : listed.getD e false with
        | false => rfl
        | true =>
          have := h4 e i he hle this
          rw [hil] at this; cases this
    unfold wpOp
    rw [ho]
    simp only [Region.wanted, hgd, if_true]
    refine .inl (hstep i o (sel σ a0 u) w (fun j => u (dst j)) g _ hin ho (fun s hs => sel_out hs) (fun j hj hij hσ => ?_) (fun j hj => ⟨fun hσ => ?_, h1 j (Nat.lt_trans (hlt i j hin hj) hin) (hdl j hj)⟩) (fun j hj => h2 j (hsub i j hin hj).2 (hdl j (hsub i j hin hj).1) (hlive j hj)) hbw (fun x gi w' hSi hRi hbw' hzw hown hfar => ?_))
    · have hul : listed.getD j false = false := by
        cases hlj : listed.getD j false with
        | false => rfl
        | true => have := h4 j i hj hlj hij; rw [hil] at this; cases this
      have hoj := Array.getElem?_eq_getElem (xs := ops) (i := j) (by omega)
      rcases hdst j _ hoj with ⟨_, q1, q2⟩ | ⟨_, q1⟩
      · rw [sel_in q1 q2, h5 j hj hul]; simp [Act.eval]
      · exact absurd hσ q1
    · have hjn : j < n := Nat.lt_trans (hlt i j hin hj) hin
      have hoj := Array.getElem?_eq_getElem (xs := ops) (i := j) (by omega)
      rcases hdst j _ hoj with ⟨_, q1, q2⟩ | ⟨_, q1⟩
      · exact sel_in q1 q2
      · exact absurd hσ q1
    · have hne : ∀ j, j < n → j ≠ i → (if dst j = dst i then x else u (dst j)) = u (dst j) := fun j hj h => if_neg (fun e => h (hinj j i hj hin e))
      refine ⟨hbw', fun k => if k = dst i then x else u k, fun k => if k = i then gi else g k, ?_, fun j hj hl => ?_, fun j hj hl hlv => ?_, fun j k hj hk hjk oj ok lj lk vj vk => ?_, fun k j hk hl hjd => ?_, fun j hj hl => ?_⟩
      · rcases hdst i o ho with ⟨q0, q1, q2⟩ | ⟨q0, q1⟩
        · rw [q0, sel_put _ q1]
        · rw [q0]; exact sel_far x q1
      · by_cases e : j = i
        · subst e; simpa using hSi
        · show S j (if dst j = dst i then x else u (dst j)) (if j = i then gi else g j)
          rw [hne j hj e, if_neg e]
          rw [hset j e] at hl
          exact h1 j hj hl
      · by_cases e : j = i
        · subst e
          refine ⟨by simpa using hRi, fun ho => ?_⟩
          obtain ⟨q1, q2⟩ := hown ho
          simp only [if_true]
          refine ⟨?_, q2⟩
          rcases q1 with ⟨k, hk, ok, rfl⟩ | q1
          · exact ((h2 k (hsub j k hj (.inl hk)).2 (hdl k (hsub j k hj (.inl hk)).1) (hlive k (.inl hk))).2 ok).1
          · have := hbw.size; omega
        · show R j (if dst j = dst i then x else u (dst j)) w' (if j = i then gi else g j) ∧ (own j = true → W.heap.size ≤ (if j = i then gi else g j) ∧ (if j = i then gi else g j) < w'.heap.size)
          rw [hne j hj e, if_neg e]
          rw [hset j e] at hl
          have hlv2 : ∀ e', e' < n → j ∈ eats e' → listed.getD e' false = false := fun e' he' hje => by
            have := hlv e' he' hje
            by_cases e2 : e' = i
            · subst e2; rw [hsi] at this; cases this
            · rw [hset e' e2] at this; exact this
          have hni : j ∉ eats i := fun h => by
            have := hlv i hin h
            rw [hsi] at this; cases this
          obtain ⟨r1, r2⟩ := h2 j hj hl hlv2
          refine ⟨hR j _ w w' _ hj r1 hbw hbw' (fun oj => hfar _ (r2 oj).2 (fun k hk ok => ?_)), fun oj => ⟨(r2 oj).1, by have := (r2 oj).2; omega⟩⟩
          exact h3 j k hj (hsub i k hin (.inl hk)).2 (fun e => hni (e ▸ hk)) oj ok hl (hdl k (hsub i k hin (.inl hk)).1) hlv2 (hlive k (.inl hk))
      · have old : ∀ j, j < n → j ≠ i → (listed.setIfInBounds i true).getD j false = true → (∀ e, e < n → j ∈ eats e → (listed.setIfInBounds i true).getD e false = false) → listed.getD j false = true ∧ (∀ e, e < n → j ∈ eats e → listed.getD e false = false) ∧ j ∉ eats i := fun j hj e hl hlv => by
          rw [hset j e] at hl
          refine ⟨hl, fun e' he' hje => ?_, fun h => ?_⟩
          · have := hlv e' he' hje
            by_cases e2 : e' = i
            · subst e2; rw [hsi] at this; cases this
            · rw [hset e' e2] at this; exact this
          · have := hlv i hin h
            rw [hsi] at this; cases this
        have fresh : ∀ j, j < n → j ≠ i → own j = true → own i = true → (listed.setIfInBounds i true).getD j false = true → (∀ e, e < n → j ∈ eats e → (listed.setIfInBounds i true).getD e false = false) → gi ≠ g j := fun j hj e oj oi hl hlv => by
          obtain ⟨q1, q2, q3⟩ := old j hj e hl hlv
          rcases (hown oi).1 with ⟨k, hk, ok, rfl⟩ | q
          · exact h3 k j (hsub i k hin (.inl hk)).2 hj (fun e => q3 (e ▸ hk)) ok oj (hdl k (hsub i k hin (.inl hk)).1) q1 (hlive k (.inl hk)) q2
          · have := ((h2 j hj q1 q2).2 oj).2; omega
        show (if j = i then gi else g j) ≠ (if k = i then gi else g k)
        by_cases e1 : j = i
        · subst e1
          rw [if_pos rfl, if_neg (fun e => hjk e.symm)]
          exact fresh k hk (fun e => hjk e.symm) ok oj lk vk
        · rw [if_neg e1]
          by_cases e2 : k = i
          · subst e2
            rw [if_pos rfl]
            exact fun e => fresh j hj e1 oj ok lj vj e.symm
          · rw [if_neg e2]
            obtain ⟨q1, q2, _⟩ := old j hj e1 lj vj
            obtain ⟨p1, p2, _⟩ := old k hk e2 lk vk
            exact h3 j k hj hk hjk oj ok q1 p1 q2 p2
      · by_cases e : k = i
        · subst e; exact lst_mono (hdl j hjd)
        · rw [hset k e] at hl
          exact lst_mono (h4 k j hk hl hjd)
      · have e : j ≠ i := fun e => by subst e; rw [hsi] at hl; cases hl
        rw [hset j e] at hl
        show (if dst j = dst i then x else u (dst j)) = _
        rw [hne j hj e]
        exact h5 j hj hl
  · rintro listed a w hs h0 ⟨hbw, u, g, rfl, h1, h2, h3, h4, h5⟩
    have hall := ready_allB hac1 hs h0
    exact hend u g w (fun j hj => h1 j hj (hall _ (by omega))) (fun j hj hv => h2 j hj (hall _ (by omega)) (fun e he hje => absurd hje (hv e he)))
      (fun i j hi hj hne oi oj vi vj => h3 i j hi hj hne oi oj (hall _ (by omega)) (hall _ (by omega)) (fun e he h => absurd h (vi e he)) (fun e he h => absurd h (vj e he))) hbw
  · refine ⟨⟨rfl, rfl, rfl, Nat.le_refl _, fun _ _ => rfl⟩, fun j => a0.tmps.getD j undef, fun _ => 0, (sel_self a0 σ).symm, fun j hj hl => ?_, fun j hj hl _ => ?_, fun i j hi hj hne _ _ l1 => ?_, fun i j hi l1 => ?_, fun _ _ _ => rfl⟩
    · simp [Array.getD] at hl
    · simp [Array.getD] at hl
    · simp [Array.getD] at l1
    · simp [Array.getD] at l1
end Go.Proofs.YtbppdalfcldodaaGreat
set_option maxRecDepth 100000
namespace Go.Proofs.YtbppdalfcldodaaGreat
open Go.RowKit Ex
set_option linter.unusedSimpArgs false
set_option linter.unusedVariables false
def OwR (w : World) (base n : Nat) (xs : List Int) (v : Value) (g : Nat) : Prop := w.ownsRow base 3 1 v n (ints xs) ∧ v.ownBlock = some g
theorem OwR.keep {w w' : World} {base n : Nat} {xs : List Int} {v : Value} {g : Nat} (h : OwR w base n xs v g) (hg : w'.heap[g]? = w.heap[g]?) : OwR w' base n xs v g :=
  ⟨own_keep h.1 (fun k hk => by rw [h.2] at hk; injection hk with hk; subst hk; exact hg), h.2⟩
theorem OwR.of {w : World} {base n : Nat} {xs : List Int} {v : Value} (h : w.ownsRow base 3 1 v n (ints xs)) (hn : 0 < n) : ∃ g, OwR w base n xs v g ∧ g < w.heap.size := by
  obtain ⟨g, cap, hv, hb, hlt⟩ := h.form hn
  exact ⟨g, ⟨h, by rw [hv]; rfl⟩, hlt⟩
def depsS (i : Nat) : List Nat := [[], [], [0, 1], [2], [], [4], [3, 5], [], [], [7, 8], [6, 9], [10, 0, 7]].getD i []
def eatsS (i : Nat) : List Nat := [[], [], [], [], [], [], [3], [], [], [], [6], [10]].getD i []
def readsS (i : Nat) : List Nat := [[], [], [], [], [], [], [5], [], [], [], [], []].getD i []
def dstS (i : Nat) : Nat := if i = 11 then 3 else i + 27
def ownS (k : Nat) (i : Nat) : Bool := [false, false, false, decide (0 < k), false, true, true, false, false, false, true, true].getD i false
def SS (OA : Option Addr) (n c k : Nat) (x : Int) (xs : List Int) (W : World) (i : Nat) (v : Value) (g : Nat) : Prop := (List.getD (α := Value → Nat → Prop) [
  fun v _ => v = .slice OA n c,
  fun v _ => v = .int .i64 (k : Int),
  fun v _ => ∃ A c', v = .slice A k c' ∧ Gr.RI W W.heap.size ⟨A, k, c'⟩ (xs.take k),
  fun v _ => k = 0 → v = .slice none 0 0,
  fun v _ => v = .int .i64 x,
  fun v g => v = .slice (some ⟨g, 0, none⟩) 1 1,
  fun v _ => True,
  fun v _ => v = .slice OA n c,
  fun v _ => v = .int .i64 (k : Int),
  fun v _ => ∃ A c', v = .slice A (n - k) c' ∧ Gr.RI W W.heap.size ⟨A, n - k, c'⟩ (xs.drop k),
  fun v _ => True,
  fun v _ => True] i (fun _ _ => True)) v g
def RS (n k : Nat) (x : Int) (xs : List Int) (W : World) (i : Nat) (v : Value) (w : World) (g : Nat) : Prop := (List.getD (α := Value → World → Nat → Prop) [
  fun _ _ _ => True, fun _ _ _ => True, fun _ _ _ => True,
  fun v w g => 0 < k → OwR w W.heap.size k (xs.take k) v g,
  fun _ _ _ => True,
  fun _ w g => w.heap[g]? = some (.cells #[.int .i64 x] 3 (0, 0)),
  fun v w g => OwR w W.heap.size (k + 1) (xs.take k ++ [x]) v g,
  fun _ _ _ => True, fun _ _ _ => True, fun _ _ _ => True,
  fun v w g => OwR w W.heap.size (n + 1) (xs.take k ++ [x] ++ xs.drop k) v g,
  fun v w g => OwR w W.heap.size (n + 1) (xs.take k ++ [x] ++ xs.drop k) v g] i (fun _ _ _ => True)) v w g
theorem lt12 {i : Nat} (h : i < 12) : i = 0 ∨ i = 1 ∨ i = 2 ∨ i = 3 ∨ i = 4 ∨ i = 5 ∨ i = 6 ∨ i = 7 ∨ i = 8 ∨ i = 9 ∨ i = 10 ∨ i = 11 := by omega
section
variable {a : Act} {w : World} {K : Act → World → Prop} {Q : Exit → Act → World → Prop} {d ty : Nat} {pos : String} {af : Array Edge}
theorem ss_move {t : Nat} {v : Value} (he : a.eval (.tmp t) = v) (hK : K (a.put (some d) v) w) : Oper.wp Tryz.prog ⟨some d, .move (.tmp t), ty, pos, af, none⟩ a w K Q := by
  have he' : a.tmps[t]?.getD undef = v := by simpa [Act.eval] using he
  refine wp_val ?_ hK
  simp only [execOp]
  go_simp
theorem ss_assign {t : Nat} {v : Value} (he : a.eval (.tmp t) = v) (hK : K (a.put (some d) v) w) : Oper.wp Tryz.prog ⟨some d, .assign (.tmp t), ty, pos, af, none⟩ a w K Q := by
  have he' : a.tmps[t]?.getD undef = v := by simpa [Act.eval] using he
  refine wp_val ?_ hK
  simp only [execOp]
  go_simp
theorem ss_one {t : Nat} {x : Int} (he : a.eval (.tmp t) = .int .i64 x) (hK : K (a.put (some d) (.slice (some ⟨w.heap.size, 0, none⟩) 1 1)) (w.alloc (.cells #[.int .i64 x] 3))) : Oper.wp Tryz.prog ⟨some d, .buildSlice 32 1 #[(0, .tmp t)], ty, pos, af, none⟩ a w K Q := by
  have he' : a.tmps[t]?.getD undef = .int .i64 x := by simpa [Act.eval] using he
  refine wp_val ?_ hK
  simp only [execOp]
  go_simp
end
theorem ri_take {W : World} {B n c k b off : Nat} {xs : List Int} (h : Gr.RI W B ⟨some ⟨b, off, none⟩, n, c⟩ xs) (hk : k ≤ n) : Gr.RI W B ⟨some ⟨b, off, none⟩, k, c⟩ (xs.take k) :=
  ⟨by have := h.1; simp at this ⊢; omega, by have := h.2.1; simp only at this ⊢; omega, h.2.2.1, fun hk0 => (by
    obtain ⟨b2, o2, e, h1, h2⟩ := h.2.2.2.1 (by show 0 < n; exact Nat.lt_of_lt_of_le hk0 hk)
    refine ⟨b2, o2, e, h1, fun j y hy => h2 j y ?_⟩
    rw [List.getElem?_take] at hy
    split at hy
    · exact hy
    · cases hy), fun e => by cases e⟩
theorem ri_drop {W : World} {B n c k b off : Nat} {xs : List Int} (h : Gr.RI W B ⟨some ⟨b, off, none⟩, n, c⟩ xs) (hk : k ≤ n) : Gr.RI W B ⟨if c = k then some ⟨b, off, none⟩ else some ⟨b, off + k, none⟩, n - k, c - k⟩ (xs.drop k) :=
  ⟨by have := h.1; simp at this ⊢; omega, by have := h.2.1; simp only at this ⊢; omega, by have := h.2.2.1; simp only at this ⊢; omega, fun hk0 => (by
    have hck : ¬ c = k := by have := h.2.1; simp only at this hk0; omega
    obtain ⟨b2, o2, e, h1, h2⟩ := h.2.2.2.1 (by show 0 < n; simp only at hk0; omega)
    simp only at e
    injection e with e; injection e with e3 e4 _
    subst e3; subst e4
    simp only
    rw [if_neg hck]
    refine ⟨b, off + k, rfl, h1, fun j y hy => ?_⟩
    rw [List.getElem?_drop] at hy
    have := h2 (k + j) y hy
    rw [Nat.add_assoc]; exact this), fun e => by simp only at e; split at e <;> cases e⟩
set_option maxHeartbeats 4000000 in
theorem sorted_region {id : Nat} {ops : Array Oper} {Q : Exit → Act → World → Prop} {a0 : Act} {W : World} {OA : Option Addr} {n c k : Nat} {x : Int} {xs : List Int}
    (hm : Tryz.prog.follows .mixedOrders = true) (hsz : ops.size = 12) (hac : ownAc ops = true) (hdep : ownDeps ops depsS = true)
    (o0 : ∃ ty pos af, ops[0]? = some ⟨some 27, .move (.tmp 3), ty, pos, af, none⟩)
    (o1 : ∃ ty pos af, ops[1]? = some ⟨some 28, .move (.tmp 6), ty, pos, af, none⟩)
    (o2 : ∃ ty pos af, ops[2]? = some ⟨some 29, .slice 32 (.tmp 27) none (some (.tmp 28)) none, ty, pos, af, none⟩)
    (o3 : ∃ ty pos af, ops[3]? = some ⟨some 30, .call { callee := .builtin .append, args := #[.const (.slice none 0 0), .tmp 29], argTypes := #[32, 32] }, ty, pos, af, none⟩)
    (o4 : ∃ ty pos af, ops[4]? = some ⟨some 31, .move (.tmp 5), ty, pos, af, none⟩)
    (o5 : ∃ ty pos af, ops[5]? = some ⟨some 32, .buildSlice 32 1 #[(0, .tmp 31)], ty, pos, af, none⟩)
    (o6 : ∃ ty pos af, ops[6]? = some ⟨some 33, .call { callee := .builtin .append, args := #[.tmp 30, .tmp 32], argTypes := #[32, 32] }, ty, pos, af, none⟩)
    (o7 : ∃ ty pos af, ops[7]? = some ⟨some 34, .move (.tmp 3), ty, pos, af, none⟩)
    (o8 : ∃ ty pos af, ops[8]? = some ⟨some 35, .move (.tmp 6), ty, pos, af, none⟩)
    (o9 : ∃ ty pos af, ops[9]? = some ⟨some 36, .slice 32 (.tmp 34) (some (.tmp 35)) none none, ty, pos, af, none⟩)
    (o10 : ∃ ty pos af, ops[10]? = some ⟨some 37, .call { callee := .builtin .append, args := #[.tmp 33, .tmp 36], argTypes := #[32, 32] }, ty, pos, af, none⟩)
    (o11 : ∃ ty pos af, ops[11]? = some ⟨some 3, .assign (.tmp 37), ty, pos, af, none⟩)
    (hf : a0.tmps.size = 40) (h3 : a0.eval (.tmp 3) = .slice OA n c) (h5 : a0.eval (.tmp 5) = .int .i64 x) (h6 : a0.eval (.tmp 6) = .int .i64 (k : Int))
    (hr : Gr.RI W W.heap.size ⟨OA, n, c⟩ xs) (hOA : OA = none ∨ ∃ g, OA = some ⟨g, 0, none⟩) (hk : k ≤ n) (hn : n ≤ 100000)
    (hQ : ∀ (v : Value) (u : Nat → Value) (w : World), w.ownsRow W.heap.size 3 1 v (n + 1) (ints (xs.take k ++ [x] ++ xs.drop k)) → Below W.heap.size W w → u 3 = v → Q .normal (sel [27, 28, 29, 30, 31, 32, 33, 34, 35, 36, 37, 3] a0 u) w) :
    (Code.region id ops true).wp Tryz.prog Q a0 W := by
  have hL : ∀ i, i < 12 → ∃ d o ty pos af, ops[i]? = some ⟨some d, o, ty, pos, af, none⟩ ∧ d = dstS i := fun i hi => by
    rcases lt12 hi with rfl | rfl | rfl | rfl | rfl | rfl | rfl | rfl | rfl | rfl | rfl | rfl
    · obtain ⟨ty, pos, af, h⟩ := o0; exact ⟨_, _, ty, pos, af, h, rfl⟩
    · obtain ⟨ty, pos, af, h⟩ := o1; exact ⟨_, _, ty, pos, af, h, rfl⟩
    · obtain ⟨ty, pos, af, h⟩ := o2; exact ⟨_, _, ty, pos, af, h, rfl⟩
    · obtain ⟨ty, pos, af, h⟩ := o3; exact ⟨_, _, ty, pos, af, h, rfl⟩
    · obtain ⟨ty, pos, af, h⟩ := o4; exact ⟨_, _, ty, pos, af, h, rfl⟩
    · obtain ⟨ty, pos, af, h⟩ := o5; exact ⟨_, _, ty, pos, af, h, rfl⟩
    · obtain ⟨ty, pos, af, h⟩ := o6; exact ⟨_, _, ty, pos, af, h, rfl⟩
    · obtain ⟨ty, pos, af, h⟩ := o7; exact ⟨_, _, ty, pos, af, h, rfl⟩
    · obtain ⟨ty, pos, af, h⟩ := o8; exact ⟨_, _, ty, pos, af, h, rfl⟩
    · obtain ⟨ty, pos, af, h⟩ := o9; exact ⟨_, _, ty, pos, af, h, rfl⟩
    · obtain ⟨ty, pos, af, h⟩ := o10; exact ⟨_, _, ty, pos, af, h, rfl⟩
    · obtain ⟨ty, pos, af, h⟩ := o11; exact ⟨_, _, ty, pos, af, h, rfl⟩
  have h12 : ∀ i o, ops[i]? = some o → i < 12 := fun i o h => by
    have := (Array.getElem?_eq_some_iff.1 h).1; omega
  have hown3 : ∀ j, j < 12 → ownS k j = true → (j = 3 ∧ 0 < k) ∨ j = 5 ∨ j = 6 ∨ j = 10 ∨ j = 11 := fun j hj h => by
    rcases lt12 hj with rfl | rfl | rfl | rfl | rfl | rfl | rfl | rfl | rfl | rfl | rfl | rfl <;> simp [ownS] at h ⊢
    exact h
  refine region_own2 [27, 28, 29, 30, 31, 32, 33, 34, 35, 36, 37, 3] dstS depsS eatsS readsS (ownS k) (SS OA n c k x xs W) (RS n k x xs W) hm hsz hac hdep ?_ ?_ ?_ ?_ ?_ ?_ ?_ ?_ ?_
  · have : ∀ i < 12, ∀ j ∈ eatsS i ++ readsS i, j ∈ depsS i ∧ j < 12 := by decide +kernel
    exact fun i j hi hj => this i hi j (List.mem_append.2 hj)
  · have : ∀ i < 12, ∀ i' < 12, ∀ j ∈ eatsS i, j ∈ eatsS i' → i = i' := by decide +kernel
    exact fun i i' j hi hi' h h' => this i hi i' hi' j h h'
  · have : ∀ i < 12, ∀ e < 12, ∀ j ∈ readsS i, j ∈ eatsS e → i ∈ depsS e := by decide +kernel
    exact fun i e j hi he h h' => this i hi e he j h h'
  · have : ∀ i < 12, ∀ j ∈ depsS i, j < i := by decide +kernel
    exact fun i j hi h => this i hi j h
  · intro i o ho
    obtain ⟨d, oo, ty, pos, af, h1, h2⟩ := hL i (h12 i o ho)
    rw [h1] at ho
    injection ho with ho
    subst ho; subst h2
    have : ∀ i < 12, dstS i ∈ [27, 28, 29, 30, 31, 32, 33, 34, 35, 36, 37, 3] ∧ dstS i < 40 := by decide +kernel
    obtain ⟨h3', h4'⟩ := this i (h12 i _ h1)
    exact .inl ⟨rfl, h3', by rw [hf]; exact h4'⟩
  · have : ∀ i < 12, ∀ j < 12, dstS i = dstS j → i = j := by decide +kernel
    exact fun i j hi hj h => this i hi j hj h
  · intro j y w w' g hj hR _ _ hg
    rcases lt12 hj with rfl | rfl | rfl | rfl | rfl | rfl | rfl | rfl | rfl | rfl | rfl | rfl
    case _ => trivial
    case _ => trivial
    case _ => trivial
    case _ => exact fun hk0 => (hR hk0).keep (hg (by simp [ownS]; exact hk0))
    case _ => trivial
    case _ => exact (hg rfl).trans hR
    case _ => exact OwR.keep hR (hg rfl)
    case _ => trivial
    case _ => trivial
    case _ => trivial
    case _ => exact OwR.keep hR (hg rfl)
    case _ => exact OwR.keep hR (hg rfl)
  · intro i o a w v g K hi ho hout hpre hdep2 hmem hbw hK
    have hzw := hbw.size
    have pur : ∀ y, SS OA n c k x xs W i y 0 → RS n k x xs W i y w 0 → ownS k i = false → K (a.put o.dst y) w := fun y h1 h2 h3 => hK y 0 w h1 h2 hbw (Nat.le_refl _) (fun e => by rw [h3] at e; cases e) (fun _ _ _ => rfl)
    rcases lt12 hi with rfl | rfl | rfl | rfl | rfl | rfl | rfl | rfl | rfl | rfl | rfl | rfl
    · obtain ⟨ty, pos, af, e⟩ := o0
      rw [e] at ho; injection ho with ho; subst ho
      exact ss_move ((hpre 11 (by omega) (by decide) (by decide)).trans h3) (pur _ rfl trivial rfl)
    · obtain ⟨ty, pos, af, e⟩ := o1
      rw [e] at ho; injection ho with ho; subst ho
      exact ss_move ((hout 6 (by decide)).trans h6) (pur _ rfl trivial rfl)
    · obtain ⟨ty, pos, af, e⟩ := o2
      rw [e] at ho; injection ho with ho; subst ho
      obtain ⟨e0, s0⟩ := hdep2 0 (by decide)
      obtain ⟨e1, s1⟩ := hdep2 1 (by decide)
      have e0 := (e0 (by decide)).trans s0
      have e1 := (e1 (by decide)).trans s1
      cases OA with
      | none =>
        have hc0 : c = 0 := hr.2.2.2.2 rfl
        have hn0 : n = 0 := by have := hr.2.1; simp only at this; omega
        subst hc0; subst hn0
        obtain rfl : k = 0 := by omega
        exact sl_upto0 e0 e1 (pur _ ⟨none, 0, rfl, by simpa using Gr.rows_nil _ _ _⟩ trivial rfl)
      | some ad =>
        obtain ⟨b, hb⟩ : ∃ b, ad = ⟨b, 0, none⟩ := by
          rcases hOA with h | ⟨b, h⟩
          · cases h
          · injection h with h; exact ⟨b, h⟩
        subst hb
        exact sl_upto e0 e1 hk hr.2.1 hr.2.2.1 (pur _ ⟨_, _, rfl, ri_take hr hk⟩ trivial rfl)
    · obtain ⟨ty, pos, af, e⟩ := o3
      rw [e] at ho; injection ho with ho; subst ho
      obtain ⟨e0, s0⟩ := hdep2 2 (by decide)
      have e0 := e0 (by decide)
      obtain ⟨A, c', s1, s2⟩ := s0
      rw [s1] at e0
      by_cases hk0 : k = 0
      · subst hk0
        exact app_nil rfl e0 (pur _ (fun _ => rfl) (fun h => absurd h (by omega)) (by decide))
      · refine app_ints (lo := W.heap.size) (k := 0) (xs := []) rfl e0 (World.ownsRow_nil _ _ _ _) ((Gr.RI.below s2 hbw).more hzw) (by omega) hzw ?_
        intro v' w' hown hgrow hblk
        simp only [Nat.zero_add, List.nil_append] at hown
        obtain ⟨gg, hg1, hg2⟩ := OwR.of hown (by omega)
        have hgn : w.heap.size = gg := by
          rcases hblk gg hg1.2 with h | h
          · cases h
          · exact h.symm
        refine hK v' gg w' (fun h => absurd h hk0) (fun _ => hg1) (hbw.grown hgrow hzw (fun z hz => by cases hz)) hgrow.size (fun _ => ⟨.inr (by omega), hg2⟩) (fun b hb _ => hgrow.block b hb (fun e => by have e : some b = (Value.slice none 0 0).ownBlock := e; cases e))
    · obtain ⟨ty, pos, af, e⟩ := o4
      rw [e] at ho; injection ho with ho; subst ho
      exact ss_move ((hout 5 (by decide)).trans h5) (pur _ rfl trivial rfl)
    · obtain ⟨ty, pos, af, e⟩ := o5
      rw [e] at ho; injection ho with ho; subst ho
      obtain ⟨e0, s0⟩ := hdep2 4 (by decide)
      have e0 := (e0 (by decide)).trans s0
      refine ss_one e0 (hK _ w.heap.size _ rfl (heap_alloc_new w _) (hbw.alloc hzw _) (by simp) (fun _ => ⟨.inr (Nat.le_refl _), by simp⟩) (fun b hb _ => Below.heap_alloc w _ _ hb))
    · obtain ⟨ty, pos, af, e⟩ := o6
      rw [e] at ho; injection ho with ho; subst ho
      obtain ⟨e0, s0⟩ := hdep2 3 (by decide)
      obtain ⟨e1, s1⟩ := hdep2 5 (by decide)
      have e0 := e0 (by decide)
      have e1 := (e1 (by decide)).trans s1
      obtain ⟨r1, q1⟩ := hmem 3 (.inl (by decide))
      obtain ⟨r2, q2⟩ := hmem 5 (.inr (by decide))
      have r2' : w.heap[g 5]? = some (.cells #[.int .i64 x] 3 (0, 0)) := r2
      have hy : Gr.RI w w.heap.size ⟨some ⟨g 5, 0, none⟩, 1, 1⟩ [x] := ⟨rfl, Nat.le_refl _, by show 1 ≤ maxLen; unfold maxLen; omega, fun _ => ⟨g 5, 0, rfl, (q2 rfl).2, fun j y hj => by
        have hj0 : j = 0 := by have := (List.getElem?_eq_some_iff.1 hj).1; simp at this; omega
        subst hj0
        simp at hj; subst hj
        show w.cell? ⟨g 5, 0, none⟩ = _
        rw [Lib.cell_of_heap r2']; rfl⟩, fun e => by cases e⟩
      have hown : w.ownsRow W.heap.size 3 1 (v 3) k (ints (xs.take k)) := by
        by_cases hk0 : k = 0
        · subst hk0
          rw [s0 rfl]; simpa [ints] using World.ownsRow_nil w W.heap.size 3 1
        · exact (r1 (by omega)).1
      refine app_ints (lo := W.heap.size) e0 e1 hown hy (by omega) hzw ?_
      intro v' w' hown' hgrow hblk
      obtain ⟨gg, hg1, hg2⟩ := OwR.of hown' (by omega)
      have hob : ∀ z, (v 3).ownBlock = some z → 0 < k ∧ z = g 3 := fun z hz => by
        by_cases hk0 : k = 0
        · rw [s0 hk0] at hz; cases hz
        · have := (r1 (by omega)).2
          rw [this] at hz; injection hz with hz; exact ⟨by omega, hz.symm⟩
      refine hK v' gg w' trivial hg1 (hbw.grown hgrow hzw (fun z hz => ?_)) hgrow.size (fun _ => ⟨?_, hg2⟩) (fun b hb hne => hgrow.block b hb (fun e => ?_))
      · obtain ⟨h1, rfl⟩ := hob z hz
        exact (q1 (by simp [ownS]; exact h1)).1
      · rcases hblk gg hg1.2 with h | h
        · obtain ⟨h1, h2⟩ := hob gg h
          exact .inl ⟨3, by decide, by simp [ownS]; exact h1, h2⟩
        · exact .inr (by omega)
      · obtain ⟨h1, h2⟩ := hob b e.symm
        exact hne 3 (by decide) (by simp [ownS]; exact h1) h2
    · obtain ⟨ty, pos, af, e⟩ := o7
      rw [e] at ho; injection ho with ho; subst ho
      exact ss_move ((hpre 11 (by omega) (by decide) (by decide)).trans h3) (pur _ rfl trivial rfl)
    · obtain ⟨ty, pos, af, e⟩ := o8
      rw [e] at ho; injection ho with ho; subst ho
      exact ss_move ((hout 6 (by decide)).trans h6) (pur _ rfl trivial rfl)
    · obtain ⟨ty, pos, af, e⟩ := o9
      rw [e] at ho; injection ho with ho; subst ho
      obtain ⟨e0, s0⟩ := hdep2 7 (by decide)
      obtain ⟨e1, s1⟩ := hdep2 8 (by decide)
      have e0 := (e0 (by decide)).trans s0
      have e1 := (e1 (by decide)).trans s1
      cases OA with
      | none =>
        have hc0 : c = 0 := hr.2.2.2.2 rfl
        have hn0 : n = 0 := by have := hr.2.1; simp only at this; omega
        subst hc0; subst hn0
        obtain rfl : k = 0 := by omega
        exact sl_from0 e0 e1 (pur _ ⟨none, 0, rfl, by
          have : xs = [] := List.eq_nil_of_length_eq_zero hr.len
          rw [this]; exact Gr.rows_nil _ _ _⟩ trivial rfl)
      | some ad =>
        obtain ⟨b, hb⟩ : ∃ b, ad = ⟨b, 0, none⟩ := by
          rcases hOA with h | ⟨b, h⟩
          · cases h
          · injection h with h; exact ⟨b, h⟩
        subst hb
        exact sl_from e0 e1 hk hr.2.1 hr.2.2.1 (pur _ ⟨_, _, rfl, ri_drop hr hk⟩ trivial rfl)
    · obtain ⟨ty, pos, af, e⟩ := o10
      rw [e] at ho; injection ho with ho; subst ho
      obtain ⟨e0, s0⟩ := hdep2 6 (by decide)
      obtain ⟨e1, s1⟩ := hdep2 9 (by decide)
      have e0 := e0 (by decide)
      obtain ⟨A, c', s2, s3⟩ := s1
      have e1 := (e1 (by decide)).trans s2
      obtain ⟨r1, q1⟩ := hmem 6 (.inl (by decide))
      have r1' : OwR w W.heap.size (k + 1) (xs.take k ++ [x]) (v 6) (g 6) := r1
      refine app_ints (lo := W.heap.size) e0 e1 r1'.1 ((Gr.RI.below s3 hbw).more hzw) (by omega) hzw ?_
      intro v' w' hown' hgrow hblk
      rw [show k + 1 + (n - k) = n + 1 by omega] at hown'
      obtain ⟨gg, hg1, hg2⟩ := OwR.of hown' (by omega)
      refine hK v' gg w' trivial hg1 (hbw.grown hgrow hzw (fun z hz => ?_)) hgrow.size (fun _ => ⟨?_, hg2⟩) (fun b hb hne => hgrow.block b hb (fun e => ?_))
      · rw [r1'.2] at hz; injection hz with hz; subst hz
        exact (q1 rfl).1
      · rcases hblk gg hg1.2 with h | h
        · rw [r1'.2] at h; injection h with h
          exact .inl ⟨6, by decide, rfl, h.symm⟩
        · exact .inr (by omega)
      · rw [r1'.2] at e; injection e with e
        exact hne 6 (by decide) rfl e
    · obtain ⟨ty, pos, af, e⟩ := o11
      rw [e] at ho; injection ho with ho; subst ho
      obtain ⟨e0, s0⟩ := hdep2 10 (by decide)
      have e0 := e0 (by decide)
      obtain ⟨r1, q1⟩ := hmem 10 (.inl (by decide))
      refine ss_assign e0 (hK _ (g 10) w trivial r1 hbw (Nat.le_refl _) (fun _ => ⟨.inl ⟨10, by decide, rfl, rfl⟩, (q1 rfl).2⟩) (fun _ _ _ => rfl))
  · intro u g w hS hR hne hbw
    have h11 : OwR w W.heap.size (n + 1) (xs.take k ++ [x] ++ xs.drop k) (u 3) (g 11) := (hR 11 (by omega) (by decide)).1
    exact hQ (u 3) u w h11.1 hbw rfl
end Go.Proofs.YtbppdalfcldodaaGreat
set_option maxRecDepth 100000
namespace Go.Proofs.YtbppdalfcldodaaGreat
open Go.RowKit Ex
set_option linter.unusedSimpArgs false
set_option linter.unusedVariables false
def SrtPost (w : World) (l : List Int) (e : Ending) (w' : World) : Prop := ∃ O n c, e = .returned (.slice O n c) ∧ w'.ownsRow w.heap.size 3 1 (.slice O n c) n (ints l) ∧ Below w.heap.size w w'
theorem ins_at_step {x : Int} {out : List Int} {i : Nat} {y : Int} (hy : out[i]? = some y) (hi : ∀ j, j < i → ∀ z, out[j]? = some z → z < x) (h : ¬ y < x) : insAt x out = i := by
  have hlt := (List.getElem?_eq_some_iff.1 hy).1
  unfold insAt
  have e : out = out.take i ++ (y :: out.drop (i + 1)) := by
    conv => lhs; rw [← List.take_append_drop i out]
    congr 1
    obtain ⟨h1, h2⟩ := List.getElem?_eq_some_iff.1 hy
    rw [← h2]; exact List.drop_eq_getElem_cons h1
  rw [e, List.takeWhile_append_of_pos]
  · rw [List.takeWhile_cons_of_neg (by simpa using h)]
    simp; omega
  · intro z hz
    obtain ⟨j, hj⟩ := List.getElem?_of_mem hz
    rw [List.getElem?_take] at hj
    split at hj
    · simpa using hi j (by assumption) z hj
    · cases hj
theorem ins_at_end {x : Int} {out : List Int} (hi : ∀ j, j < out.length → ∀ z, out[j]? = some z → z < x) : insAt x out = out.length := by
  unfold insAt
  have e : ∀ (l : List Int), (∀ z ∈ l, z < x) → l.takeWhile (fun y => decide (y < x)) = l := by
    intro l
    induction l with
    | nil => intro _; rfl
    | cons a r ih =>
      intro h
      rw [List.takeWhile_cons_of_pos (by simpa using h a (by simp)), ih (fun z hz => h z (by simp [hz]))]
  rw [e out (fun z hz => by
    obtain ⟨j, hj⟩ := List.getElem?_of_mem hz
    exact hi j (List.getElem?_eq_some_iff.1 hj).1 z hj)]
theorem insAll_succ {l : List Int} {k : Nat} {x : Int} (h : l[k]? = some x) : insAll (l.take (k + 1)) = insL x (insAll (l.take k)) := by
  rw [List.take_add_one, h]
  simp [insAll, List.foldl_append]
theorem own_addr {w : World} {base n c : Nat} {O : Option Addr} {xs : List Value} (h : w.ownsRow base 3 1 (.slice O n c) n xs) : O = none ∨ ∃ g, O = some ⟨g, 0, none⟩ := by
  rcases h.2 with ⟨e, _⟩ | ⟨g, cap, cur, e, _⟩
  · injection e with e; exact .inl e
  · injection e with e; exact .inr ⟨g, e⟩
theorem own_rebase {w : World} {b b2 n : Nat} {v : Value} {xs : List Value} (h : w.ownsRow b2 3 1 v n xs) (hb : b ≤ b2) : w.ownsRow b 3 1 v n xs :=
  ⟨h.1, by rcases h.2 with h1 | ⟨g, cap, cur, e, h1, r⟩; exact .inl h1; exact .inr ⟨g, cap, cur, e, by omega, r⟩⟩
set_option maxHeartbeats 4000000 in
theorem rsorted_any (B n c : Nat) (O : Option Addr) (l : List Int) (w : World) (hB : B ≤ w.heap.size) (h : Gr.RI w B ⟨O, n, c⟩ l) (hn : n ≤ 10000) :
    Calls Tryz.prog 47 #[.slice O n c] w (SrtPost w (insAll l)) := by
  have Hr := hide h
  have Hl := hide h.len
  clear h
  go_enter Tryz.func47, Tryz.ntmps47
  go_wp2_with fail
  go_loopw [3, 9] (fun ov i wr => ∃ (k cc : Nat) (O2 : Option Addr), k ≤ n ∧ i = .int .i64 k ∧ ov = .slice O2 k cc ∧ wr.ownsRow w.heap.size 3 1 (.slice O2 k cc) k (ints (insAll (l.take k))) ∧ Below w.heap.size w wr) (fun ov i _ => n - (intOf i).toNat)
  case atStart => exact ⟨0, 0, none, by omega, rfl, rfl, World.ownsRow_nil _ _ _ _, Below.refl _ _⟩
  case round =>
    obtain ⟨k, cc, O2, hk, rfl, rfl, hown, hb⟩ := hrel
    have Hown := hide hown
    have Hb := hide hb
    have hzr := hb.size
    clear hown hb
    by_cases hlt : k < n
    · have hlt' : ((k : Int) < (n : Int)) := by omega
      obtain ⟨pb, po, x, ePs, hpb, hpk, cp⟩ := Gr.RI.at_ (Gr.RI.below Hr.out (Hb.out.mono hB)) hlt
      subst ePs
      have Hsucc := hide (insAll_succ hpk)
      have Hri := hide (Gr.own_ri Hown.out)
      have Hadr := hide (own_addr Hown.out)
      have hk63 : k ≤ 2 ^ 63 - 1 := by omega
      clear hpk
      go_wp2_with fail
      go_loopw [6] (fun i wq => ∃ j : Nat, j ≤ k ∧ i = .int .i64 j ∧ Hid (∀ j', j' < j → ∀ z, (insAll (l.take k))[j']? = some z → z < x) ∧ wq = wr) (fun i _ => k - (intOf i).toNat)
      case atStart => exact ⟨0, Nat.zero_le _, rfl, hide (fun j' h => by omega), rfl⟩
      case round =>
        obtain ⟨j, hj, rfl, Hj, hwq⟩ := hrel
        subst hwq
        by_cases hjk : j < k
        · have hjk' : (j : Int) < (k : Int) := by omega
          obtain ⟨qb, qo, y, e, hqb, hqy, cq⟩ := Gr.RI.at_ Hri.out hjk
          subst e
          cases hyx : decide (y < x)
          · have hI := ins_at_step hqy Hj.out (of_decide_eq_false hyx)
            clear hqy
            have Hin : Hid ((insAll (l.take k)).take j ++ [x] ++ (insAll (l.take k)).drop j = insAll (l.take (k + 1))) := hide (by rw [Hsucc.out]; unfold insL; rw [hI])
            go_wp2_with fail
            refine sorted_region (k := j) (x := x) (xs := insAll (l.take k)) (n := k) (c := cc) (OA := some ⟨qb, qo, none⟩) (by kernel_rfl) (by kernel_rfl) (by kernel_rfl) (by kernel_rfl) ⟨_, _, _, rfl⟩ ⟨_, _, _, rfl⟩ ⟨_, _, _, rfl⟩ ⟨_, _, _, rfl⟩ ⟨_, _, _, rfl⟩ ⟨_, _, _, rfl⟩ ⟨_, _, _, rfl⟩ ⟨_, _, _, rfl⟩ ⟨_, _, _, rfl⟩ ⟨_, _, _, rfl⟩ ⟨_, _, _, rfl⟩ ⟨_, _, _, rfl⟩ rfl rfl rfl rfl Hri.out Hadr.out hj (by omega) ?_
            intro v u w5 hv hb5 hu3
            rw [Hin.out] at hv
            obtain ⟨O5, n5, c5, hve, hown5⟩ : ∃ O5 n5 c5, v = .slice O5 n5 c5 ∧ n5 = k + 1 := by
              obtain ⟨g, cap, e, _⟩ := hv.form (by omega)
              exact ⟨_, _, _, e, rfl⟩
            subst hown5
            subst hve
            have Hv := hide (own_rebase hv hzr)
            have Hb5 := hide (Hb.out.trans (hb5.mono hzr))
            simp only [sel_cons, sel_nil, Act.put, List.setIfInBounds_toArray, List.set_cons_zero, List.set_cons_succ, hu3]
            generalize u 27 = q27
            generalize u 28 = q28
            generalize u 29 = q29
            generalize u 30 = q30
            generalize u 31 = q31
            generalize u 32 = q32
            generalize u 33 = q33
            generalize u 34 = q34
            generalize u 35 = q35
            generalize u 36 = q36
            generalize u 37 = q37
            clear hv hb5 hu3
            go_wp2_with fail
            go_roundw
            case rel => exact ⟨k + 1, c5, O5, by omega, by go_num, rfl, Hv.out, Hb5.out⟩
            case measure => simp [intOf]; omega
          · have Hj2 : Hid (∀ j', j' < j + 1 → ∀ z, (insAll (l.take k))[j']? = some z → z < x) := hide (fun j' h z hz => by
              by_cases h2 : j' < j
              · exact Hj.out j' h2 z hz
              · obtain rfl : j' = j := by omega
                rw [hqy] at hz; injection hz with hz; subst hz
                exact of_decide_eq_true hyx)
            clear hqy
            go_wp2_with fail
            go_roundw
            case rel => exact ⟨j + 1, by omega, by go_num, Hj2, by trivial⟩
            case measure => simp [intOf]; omega
        · have hjk' : ¬ (j : Int) < (k : Int) := by omega
          obtain rfl : j = k := by omega
          have hI : insAt x (insAll (l.take j)) = j := by
            have hll : (insAll (l.take j)).length = j := by have := Hri.out.len; simpa using this
            rw [ins_at_end (fun j' h => Hj.out j' (by omega)), hll]
          have Hin : Hid ((insAll (l.take j)).take j ++ [x] ++ (insAll (l.take j)).drop j = insAll (l.take (j + 1))) := hide (by rw [Hsucc.out]; unfold insL; rw [hI])
          go_wp2_with fail
          refine sorted_region (k := j) (x := x) (xs := insAll (l.take j)) (n := j) (c := cc) (OA := O2) (by kernel_rfl) (by kernel_rfl) (by kernel_rfl) (by kernel_rfl) ⟨_, _, _, rfl⟩ ⟨_, _, _, rfl⟩ ⟨_, _, _, rfl⟩ ⟨_, _, _, rfl⟩ ⟨_, _, _, rfl⟩ ⟨_, _, _, rfl⟩ ⟨_, _, _, rfl⟩ ⟨_, _, _, rfl⟩ ⟨_, _, _, rfl⟩ ⟨_, _, _, rfl⟩ ⟨_, _, _, rfl⟩ ⟨_, _, _, rfl⟩ rfl rfl rfl rfl Hri.out Hadr.out hj (by omega) ?_
          intro v u w5 hv hb5 hu3
          rw [Hin.out] at hv
          obtain ⟨O5, n5, c5, hve, hown5⟩ : ∃ O5 n5 c5, v = .slice O5 n5 c5 ∧ n5 = j + 1 := by
            obtain ⟨g, cap, e, _⟩ := hv.form (by omega)
            exact ⟨_, _, _, e, rfl⟩
          subst hown5
          subst hve
          have Hv := hide (own_rebase hv hzr)
          have Hb5 := hide (Hb.out.trans (hb5.mono hzr))
          simp only [sel_cons, sel_nil, Act.put, List.setIfInBounds_toArray, List.set_cons_zero, List.set_cons_succ, hu3]
          generalize u 27 = q27
          generalize u 28 = q28
          generalize u 29 = q29
          generalize u 30 = q30
          generalize u 31 = q31
          generalize u 32 = q32
          generalize u 33 = q33
          generalize u 34 = q34
          generalize u 35 = q35
          generalize u 36 = q36
          generalize u 37 = q37
          clear hv hb5 hu3
          go_wp2_with fail
          go_roundw
          case rel => exact ⟨j + 1, c5, O5, by omega, by go_num, rfl, Hv.out, Hb5.out⟩
          case measure => simp [intOf]; omega
    · have hlt' : ¬ ((k : Int) < (n : Int)) := by omega
      obtain rfl : k = n := by omega
      go_wp2_with fail
      go_ret
      refine ⟨O2, k, cc, rfl, ?_, Hb.out⟩
      have h := Hown.out
      rw [← Hl.out, List.take_length] at h
      rw [← Hl.out]; exact h
end Go.Proofs.YtbppdalfcldodaaGreat
