/- The walk of the reference's copied. -/
import Derived.Test.YtkjclofkfmkbdaaFTree
import Derived.Test.YtkjclofkfmkbdaaSTyped
import Derived.Deep.RegionHeld3
import Derived.Deep.RegionLaw
namespace Go.Proofs.Ytkjclofkfmkbdaa
open Go.RowKit Ex
set_option linter.unusedSimpArgs false
set_option linter.unusedVariables false

theorem info25 : (Try.prog.info? 25).map (fun i => (i.zero, i.size, i.bytes)) = some (some (.agg #[.int .i64 0, .int .i64 0, .slice none 0 0]), 3, 40) := by kernel_rfl
def bxE (op n : Int) (A : Option Addr) (len cap : Nat) : Nat → Value := fun i => if i = 0 then .int .i64 op else if i = 1 then .int .i64 n else .slice A len cap
theorem bxE_new (w : World) (op n : Int) (A : Option Addr) (len cap : Nat) : (w.alloc (.cells #[.int .i64 op, .int .i64 n, .slice A len cap] 25)).rowIs w.heap.size 25 3 (bxE op n A len cap) :=
  World.rowIs_alloc w _ 25 _ (fun i hi => by
    have h : i = 0 ∨ i = 1 ∨ i = 2 := by simp at hi; omega
    rcases h with rfl | rfl | rfl <;> rfl)
theorem bxE_cells {w : World} {g : Nat} {op n : Int} {A : Option Addr} {len cap : Nat} (h : w.rowIs g 25 3 (bxE op n A len cap)) : Box3 w g op n A len cap :=
  ⟨h.cell (i := 0) (by omega), h.cell (i := 1) (by omega), h.cell (i := 2) (by omega)⟩
theorem bxE_set {w : World} {g : Nat} {op n : Int} {A A2 : Option Addr} {len cap len2 cap2 : Nat} (h : w.rowIs g 25 3 (bxE op n A len cap)) : (w.setCell ⟨g, 2, none⟩ (.slice A2 len2 cap2)).rowIs g 25 3 (bxE op n A2 len2 cap2) :=
  (h.set 2 _).congr (fun i hi => by
    have h : i = 0 ∨ i = 1 ∨ i = 2 := by omega
    rcases h with rfl | rfl | rfl <;> rfl)
/- the row that one appends to, its children elsewhere -/
def Grows (N d : Nat) (O : Option Addr) (k c : Nat) (ks : List K5) (ts : List T) (w : World) : Prop :=
  w.ownsRow N 25 3 (.slice O k c) k (flat ks) ∧ Kin w (fun b => N ≤ b ∧ b < w.heap.size ∧ some b ≠ (Value.slice O k c).ownBlock) d ks ts
theorem Grows.start (N d : Nat) (w : World) : Grows N d none 0 0 [] [] w := ⟨World.ownsRow_nil _ _ _ _, Kin.nil _ _ _⟩
/- a change of blocks that were there, below N, and new blocks -/
theorem Grows.kept {N d : Nat} {O : Option Addr} {k c : Nat} {ks : List K5} {ts : List T} {w w' : World} (h : Grows N d O k c ks ts w) (hz : w.heap.size ≤ w'.heap.size) (hb : ∀ b, N ≤ b → b < w.heap.size → w'.heap[b]? = w.heap[b]?) : Grows N d O k c ks ts w' := by
  refine ⟨?_, h.2.keep (fun b hq => ⟨hq.1, by omega, hq.2.2⟩) (fun p hq => World.cell?_of_block (hb _ hq.1 hq.2.1))⟩
  rcases h.1 with ⟨hl, h1 | ⟨g, cap, cur, e, hg, hc, h1, h2, h3, h4⟩⟩
  · exact ⟨hl, .inl h1⟩
  · refine ⟨hl, .inr ⟨g, cap, cur, e, hg, ?_, h1, h2, h3, h4⟩⟩
    have hlt : g < w.heap.size := by
      have := h.1.lt g (by rw [e]; rfl)
      exact this.2
    rw [hb g hg hlt]; exact hc
theorem Grows.grown {N d : Nat} {O : Option Addr} {k c g cap : Nat} {ks : List K5} {ts : List T} {w w' : World} {x : K5} {u : T} (h : Grows N d O k c ks ts w) (hx : RQ w (fun b => N ≤ b ∧ b < w.heap.size ∧ some b ≠ (Value.slice O k c).ownBlock) d x.op x.n x.A x.len x.cap u)
    (hown : w'.ownsRow N 25 3 (.slice (some ⟨g, 0, none⟩) (k + 1) cap) (k + 1) (flat ks ++ kc x)) (hg : w.grownBy w' (Value.slice O k c).ownBlock) (hat : (Value.slice O k c).ownBlock = some g ∨ w.heap.size ≤ g) : Grows N d (some ⟨g, 0, none⟩) (k + 1) cap (ks ++ [x]) (ts ++ [u]) w' := by
  refine ⟨by rw [flat_snoc]; exact hown, ?_⟩
  refine (h.2.snoc hx).keep (fun b hq => ⟨hq.1, by have := hg.size; omega, ?_⟩) (fun p hq => hg.cell_far p hq.2.1 hq.2.2)
  intro e
  have e2 : b = g := by simpa [Value.ownBlock] using e
  subst e2
  rcases hat with h1 | h1
  · exact hq.2.2 h1.symm
  · omega
theorem Grows.tree {N d : Nat} {O : Option Addr} {k c : Nat} {ks : List K5} {ts : List T} {w : World} (op n : Int) (h : Grows N d O k c ks ts w) : RQ w (fun b => N ≤ b ∧ b < w.heap.size) (d + 1) op n O k c (.mk op n ts) :=
  node_of_own op n h.1 (h.2.keep (fun b hq => ⟨hq.1, hq.2.1⟩) (fun _ _ => rfl)) (fun g hg => h.1.lt g hg)
theorem far5 {w1 w5 : World} (hb5 : Below w1.heap.size w1 w5) (p : Addr) (hp : p.block < w1.heap.size) : w5.cell? p = w1.cell? p ∧ w5.frozen? p = w1.frozen? p :=
  ⟨World.cell?_of_block (hb5.block _ hp), World.frozen?_of_block (hb5.block _ hp)⟩
theorem far6 {w1 w5 w6 : World} {v : Value} {o : Obj} {lo N1 : Nat} (hb5 : Below w1.heap.size w1 w5) (hg : (w5.alloc o).grownBy w6 v.ownBlock) (hv : ∀ q, v.ownBlock = some q → lo ≤ q ∧ q < N1) (p : Addr) (hp : p.block < w1.heap.size) (hne : p.block < lo ∨ N1 ≤ p.block) : w6.cell? p = w1.cell? p ∧ w6.frozen? p = w1.frozen? p := by
  have hz := hb5.size
  have h : w6.heap[p.block]? = w1.heap[p.block]? :=
    ((hg.block _ (by simp; omega) (fun e => by have := hv _ e.symm; omega)).trans (Below.heap_alloc _ _ _ (by omega))).trans (hb5.block _ hp)
  exact ⟨World.cell?_of_block h, World.frozen?_of_block h⟩
theorem round6 {w W1 w5 w6 : World} {N lo N1 r1 r2 d k c gg cap5 : Nat} {O : Option Addr} {op n : Int} {ks : List K5} {ts : List T} {x : K5} {u : T} {o : Obj} {f1 : Nat → Value}
    (hN2 : N ≤ r2) (h1 : r1 < lo) (h2 : r2 < lo) (h12 : r1 ≠ r2) (hNl : N ≤ lo) (hlo : lo ≤ N1) (hN1 : N1 ≤ W1.heap.size)
    (hr1 : W1.rowIs r1 25 3 f1) (hr2 : W1.rowIs r2 25 3 (bxE op n O k c)) (hg : Grows lo d O k c ks ts W1) (hb : Below N w W1) (hb5 : Below W1.heap.size W1 w5) (hrq : RQ w5 (New W1 w5) d x.op x.n x.A x.len x.cap u)
    (hgrow : (w5.alloc o).grownBy w6 (Value.slice O k c).ownBlock) (hown : w6.ownsRow lo 25 3 (.slice (some ⟨gg, 0, none⟩) (k + 1) cap5) (k + 1) (flat ks ++ kc x)) (hat : (Value.slice O k c).ownBlock = some gg ∨ gg = w5.heap.size + 1) (hog : ∀ q, (Value.slice O k c).ownBlock = some q → lo ≤ q ∧ q < N1) :
    (w6.setCell ⟨r2, 2, none⟩ (.slice (some ⟨gg, 0, none⟩) (k + 1) cap5)).rowIs r1 25 3 f1 ∧ (w6.setCell ⟨r2, 2, none⟩ (.slice (some ⟨gg, 0, none⟩) (k + 1) cap5)).rowIs r2 25 3 (bxE op n (some ⟨gg, 0, none⟩) (k + 1) cap5) ∧
    Grows lo d (some ⟨gg, 0, none⟩) (k + 1) cap5 (ks ++ [x]) (ts ++ [u]) (w6.setCell ⟨r2, 2, none⟩ (.slice (some ⟨gg, 0, none⟩) (k + 1) cap5)) ∧ Below N w (w6.setCell ⟨r2, 2, none⟩ (.slice (some ⟨gg, 0, none⟩) (k + 1) cap5)) ∧ W1.heap.size ≤ (w6.setCell ⟨r2, 2, none⟩ (.slice (some ⟨gg, 0, none⟩) (k + 1) cap5)).heap.size := by
  have hz5 := hb5.size
  have hz6 := hgrow.size
  have hza : (w5.alloc o).heap.size = w5.heap.size + 1 := by simp
  have blk : ∀ b, b < W1.heap.size → (b < lo ∨ N1 ≤ b) → w6.heap[b]? = W1.heap[b]? := fun b hb' hne =>
    ((hgrow.block _ (by omega) (fun e => by have := hog _ e.symm; omega)).trans (Below.heap_alloc _ _ _ (by omega))).trans (hb5.block _ hb')
  have hr1' : w6.rowIs r1 25 3 f1 := hr1.of_block (blk r1 (by omega) (.inl h1))
  have hr2' : w6.rowIs r2 25 3 (bxE op n O k c) := hr2.of_block (blk r2 (by omega) (.inl h2))
  have hgA : Grows lo d O k c ks ts (w5.alloc o) := hg.kept (by omega) (fun b _ hb' => (Below.heap_alloc _ _ _ (by omega)).trans (hb5.block b hb'))
  have hrA : RQ (w5.alloc o) (fun b => lo ≤ b ∧ b < (w5.alloc o).heap.size ∧ some b ≠ (Value.slice O k c).ownBlock) d x.op x.n x.A x.len x.cap u :=
    RQ.keep (fun b hq => ⟨by have := hq.1; omega, by have := hq.2; omega, fun e => by have := hog _ e.symm; have := hq.1; omega⟩) (fun p hq => World.cell?_of_block (Below.heap_alloc _ _ _ hq.2)) _ _ _ _ _ _ _ hrq
  have hg6 := Grows.grown hgA hrA hown hgrow (by
    rcases hat with h | h
    · exact .inl h
    · exact .inr (by omega))
  have hbA : Below N w (w5.alloc o) := (hb.trans (hb5.mono (by omega))).alloc (by omega) o
  refine ⟨hr1'.of_block (Below.heap_setCell _ _ _ _ (by exact h12)), bxE_set hr2', hg6.kept (by simp [World.setCell]) (fun b hb' _ => Below.heap_setCell _ _ _ _ (by show b ≠ r2; omega)), (hbA.grown hgrow (by omega) (fun q hq => by have := hog q hq; omega)).setCell (by exact hN2) _, by simp [World.setCell]; omega⟩
theorem store6 {wr : World} {N lo r1 d k c : Nat} {O : Option Addr} {op n : Int} {op0 n0 : Int} {A0 : Option Addr} {l0 c0 : Nat} {ks : List K5} {ts : List T} {w : World} (hN : N ≤ r1) (hr : r1 < lo) (hr1 : wr.rowIs r1 25 3 (bxE op0 n0 A0 l0 c0)) (hg : Grows lo d O k c ks ts wr) (hb : Below N w wr) :
    Box3 (((wr.setCell ⟨r1, 0, none⟩ (.int .i64 op)).setCell ⟨r1, 1, none⟩ (.int .i64 n)).setCell ⟨r1, 2, none⟩ (.slice O k c)) r1 op n O k c ∧
    Grows lo d O k c ks ts (((wr.setCell ⟨r1, 0, none⟩ (.int .i64 op)).setCell ⟨r1, 1, none⟩ (.int .i64 n)).setCell ⟨r1, 2, none⟩ (.slice O k c)) ∧
    Below N w (((wr.setCell ⟨r1, 0, none⟩ (.int .i64 op)).setCell ⟨r1, 1, none⟩ (.int .i64 n)).setCell ⟨r1, 2, none⟩ (.slice O k c)) := by
  refine ⟨bxE_cells ((((hr1.set 0 _).set 1 _).set 2 _).congr (fun i hi => ?_)), hg.kept (by simp [World.setCell]) (fun b hb' _ => ?_), ((hb.setCell (by exact hN) _).setCell (by exact hN) _).setCell (by exact hN) _⟩
  · have h : i = 0 ∨ i = 1 ∨ i = 2 := by omega
    rcases h with rfl | rfl | rfl <;> rfl
  · rw [Below.heap_setCell _ _ _ _ (by show b ≠ r1; omega), Below.heap_setCell _ _ _ _ (by show b ≠ r1; omega), Below.heap_setCell _ _ _ _ (by show b ≠ r1; omega)]
theorem take_at {l : List T} {k : Nat} {u : T} (h : l[k]? = some u) : l.take (k + 1) = l.take k ++ [u] := by
  obtain ⟨hk, rfl⟩ := List.getElem?_eq_some_iff.1 h
  exact List.take_succ_eq_append_getElem hk

set_option maxRecDepth 100000 in
set_option maxHeartbeats 4000000 in
theorem copied_any (B : Nat) : ∀ (d : Nat) (op n : Int) (A : Option Addr) (len cap : Nat) (t : T) (w : World), B ≤ w.heap.size → RE w B d op n A len cap t → sound t = true →
    Calls Try.prog 43 #[.agg #[.int .i64 op, .int .i64 n, .slice A len cap]] w (TreePost d t w) := by
  intro d
  induction d with
  | zero => intro op n A len cap t w hB h; exact absurd h id
  | succ d ih =>
    intro op n A len cap t w hB hre hsd
    have IH := hide ih; clear ih
    have Hre := hide hre
    obtain ⟨hx1, hx2, hlen, hcap, hmx, hx6⟩ := hre
    unfold maxLen at hmx
    have Hlen := hide hlen
    have Hsd := hide hsd
    have Ht : Hid (t = .mk op n t.kids) := hide (by cases t; simp [T.op, T.n, T.kids] at hx1 hx2 ⊢; exact ⟨hx1, hx2⟩)
    have hl3 : len ≤ 3 := by rw [← hlen]; exact (sound_op hsd).2.2
    obtain ⟨i0, hi0, hz0, hz1, hz2⟩ := info_parts info25
    have Hi0 := hide hi0; have Hz0 := hide hz0; have Hz1 := hide hz1; have Hz2 := hide hz2
    clear hi0 hz0 hz1 hz2 hx6 hx1 hx2 hlen hsd
    obtain ⟨f0, f1, f2⟩ := box_new w op n A len cap 25
    have hbA : Below w.heap.size w (((w.alloc (.cells #[.int .i64 op, .int .i64 n, .slice A len cap] 25)).alloc (.cells #[.int .i64 0, .int .i64 0, .slice none 0 0] 25)).alloc (.cells #[.int .i64 op, .int .i64 n, .slice none 0 0] 25)) := (((Below.refl _ _).alloc (Nat.le_refl _) _).alloc (by simp) _).alloc (by simp; omega) _
    have hr1 := (bxE_new (w.alloc (.cells #[.int .i64 op, .int .i64 n, .slice A len cap] 25)) 0 0 none 0 0).alloc (.cells #[.int .i64 op, .int .i64 n, .slice none 0 0] 25)
    have hr2 := bxE_new ((w.alloc (.cells #[.int .i64 op, .int .i64 n, .slice A len cap] 25)).alloc (.cells #[.int .i64 0, .int .i64 0, .slice none 0 0] 25)) op n none 0 0
    have hzA : (((w.alloc (.cells #[.int .i64 op, .int .i64 n, .slice A len cap] 25)).alloc (.cells #[.int .i64 0, .int .i64 0, .slice none 0 0] 25)).alloc (.cells #[.int .i64 op, .int .i64 n, .slice none 0 0] 25)).heap.size = w.heap.size + 3 := by simp
    have e1 : (w.alloc (.cells #[.int .i64 op, .int .i64 n, .slice A len cap] 25)).heap.size = w.heap.size + 1 := by simp
    have e2 : ((w.alloc (.cells #[.int .i64 op, .int .i64 n, .slice A len cap] 25)).alloc (.cells #[.int .i64 0, .int .i64 0, .slice none 0 0] 25)).heap.size = w.heap.size + 1 + 1 := by simp
    rw [e1] at hr1
    rw [e2] at hr2
    have Hr1 := hide hr1; have Hr2 := hide hr2; have HbA := hide hbA
    clear hr1 hr2 hbA e1 e2
    go_enter Try.func43, Try.ntmps43
    go_wp2_with fail
    clear f0 f1 f2
    generalize ((w.alloc (.cells #[.int .i64 op, .int .i64 n, .slice A len cap] 25)).alloc (.cells #[.int .i64 0, .int .i64 0, .slice none 0 0] 25)).alloc (.cells #[.int .i64 op, .int .i64 n, .slice none 0 0] 25) = W at *
    go_loopw [14] (fun i wr => ∃ (k c : Nat) (O : Option Addr) (ks : List K5), k ≤ len ∧ i = .int .i64 k ∧ wr.rowIs (w.heap.size + 1) 25 3 (bxE 0 0 none 0 0) ∧ wr.rowIs (w.heap.size + 1 + 1) 25 3 (bxE op n O k c) ∧ Grows (w.heap.size + 3) d O k c ks (t.kids.take k) wr ∧ Below w.heap.size w wr ∧ w.heap.size + 3 ≤ wr.heap.size) (fun i _ => len - (intOf i).toNat)
    case atStart => exact ⟨0, 0, none, [], by omega, rfl, Hr1.out, Hr2.out, Grows.start _ _ _, HbA.out, by omega⟩
    case round =>
      obtain ⟨k, c, O, ks, hk, rfl, hr1, hr2, hgr, hb, hz⟩ := hrel
      have Hrr1 := hide hr1; have Hrr2 := hide hr2; have Hgr := hide hgr; have Hb := hide hb
      clear hr1 hr2 hgr hb
      by_cases hlt : k < len
      · have hlt' : ((k : Int) < (len : Int)) := by omega
        obtain ⟨b, off, u, op2, n2, A2, l2, c2, rfl, hbB2, hku, ⟨c0, c1, cs⟩, hre2⟩ := (Hre.out.below (Hb.out.mono hB)).at_ hlt
        have Hsu := hide (soundK_at _ k u (sound_kids Hsd.out) hku)
        have Htk := hide (take_at hku)
        clear hku
        have hbW := (Below.refl wr.heap.size wr).alloc (Nat.le_refl _) (.cells #[.int .i64 op2, .int .i64 n2, .slice A2 l2 c2] 25)
        have Hre3 := hide (hre2.below (hbW.mono (by omega)))
        have Hr1W := hide (Hrr1.out.alloc (.cells #[.int .i64 op2, .int .i64 n2, .slice A2 l2 c2] 25))
        have Hr2W := hide (Hrr2.out.alloc (.cells #[.int .i64 op2, .int .i64 n2, .slice A2 l2 c2] 25))
        have HgW := hide (Hgr.out.kept hbW.size (fun b _ hb => hbW.block b hb))
        have HbW := hide (Hb.out.trans (hbW.mono (by have := Hb.out.size; omega)))
        have hzW : (wr.alloc (.cells #[.int .i64 op2, .int .i64 n2, .slice A2 l2 c2] 25)).heap.size = wr.heap.size + 1 := by simp
        have hboxk := box_new wr op2 n2 A2 l2 c2 25
        have Hbk := hide hboxk
        clear hre2 hbW hboxk
        go_wp2_with fail
        clear c0 c1 cs
        generalize wr.alloc (.cells #[.int .i64 op2, .int .i64 n2, .slice A2 l2 c2] 25) = W1 at *
        generalize hN : wr.heap.size = N1 at *
        obtain ⟨g0, g1, g2⟩ := Hbk.out
        have h2 := (bxE_cells Hr2W.out).2.2
        have hfz := Hr2W.out.frozen 2
        have Hre3d : Hid (RE W1.drew B d op2 n2 A2 l2 c2 u) := hide (RE.keep (w := W1) (w' := W1.drew) (fun _ _ => rfl) _ _ _ _ _ _ _ Hre3.out)
        have Hog : Hid (∀ q, (Value.slice O k c).ownBlock = some q → w.heap.size + 3 ≤ q ∧ q < N1) := hide (fun q hq => by
          have h1 := Hgr.out.1.lt q hq
          rw [hN] at h1; exact h1)
        go_region_law (first
            | (go_simp; go_at_call 43; refine (IH.out op2 n2 A2 l2 c2 u W1.drew (by show B ≤ W1.heap.size; omega) Hre3d.out Hsu.out).mono ?_; rintro e w5 ⟨x, rfl, hrq, hb5d⟩; have hb5 : Below W1.heap.size W1 w5 := ⟨hb5d.os, hb5d.tape, hb5d.output, hb5d.size, hb5d.block⟩; have k2 := (far5 hb5 ⟨w.heap.size + 1 + 1, 2, none⟩ (by show w.heap.size + 1 + 1 < W1.heap.size; omega)).1.trans h2; have k3 : ∀ o : Obj, (w5.alloc o).cell? ⟨w.heap.size + 1 + 1, 2, none⟩ = some (.slice O k c) := fun o => (World.cell?_alloc_lt _ _ _ (by have := hb5.size; show w.heap.size + 1 + 1 < w5.heap.size; omega)).trans k2)
            | (refine step_append_lies _ (by rfl) _ _ _ (by rfl) (w.heap.size + 3) 25 i0 _ 3 40 Try.underlying23 Hi0.out Hz0.out Hz1.out Hz2.out rfl (by omega) (.slice O k c) k (flat ks) (by rfl) ((Grows.kept HgW.out (w' := w5.alloc (.cells #[.int .i64 x.op, .int .i64 x.n, .slice x.A x.len x.cap] 25)) (by have := hb5.size; simp at this ⊢; omega) (fun b _ hb => (Below.heap_alloc _ _ _ (Nat.lt_of_lt_of_le hb hb5.size)).trans (hb5.block b hb))).1)
                ⟨w5.heap.size, 0, none⟩ 1 1 (kc x) (by rfl) (by rfl) (World.news_of_block (cs := #[.int .i64 x.op, .int .i64 x.n, .slice x.A x.len x.cap]) (t := 25) (fr := (0, 0)) (heap_alloc_new w5 _)) (kc_one x)
                (by omega) (by unfold maxLen; omega) (by omega) (by have := hb5.size; simp at this ⊢; omega) (w5.heap.size + 1) (by simp) ?_; intro gg cap5 w6 hown5 hgrow hat hlt5; have c6 := (far6 (w1 := W1) hb5 hgrow Hog.out ⟨w.heap.size + 1 + 1, 2, none⟩ (by show w.heap.size + 1 + 1 < W1.heap.size; omega) (.inl (by show w.heap.size + 1 + 1 < w.heap.size + 3; omega))).1.trans h2; have z6 := (far6 (w1 := W1) hb5 hgrow Hog.out ⟨w.heap.size + 1 + 1, 2, none⟩ (by show w.heap.size + 1 + 1 < W1.heap.size; omega) (.inl (by show w.heap.size + 1 + 1 < w.heap.size + 3; omega))).2.trans hfz))
        all_goals
          have hend := round6 (N := w.heap.size) (lo := w.heap.size + 3) (r1 := w.heap.size + 1) (r2 := w.heap.size + 1 + 1) (f1 := bxE 0 0 none 0 0) (op := op) (n := n) (by omega) (by omega) (by omega) (by omega) (by omega) (by omega) (by omega) Hr1W.out Hr2W.out HgW.out HbW.out hb5 hrq hgrow hown5 hat Hog.out
          rw [← Htk.out] at hend
          have Hend := hide hend
          clear hend
          go_wp2_with fail
          go_roundw
          case rel => exact ⟨k + 1, cap5, some ⟨gg, 0, none⟩, ks ++ [x], by omega, by go_num, Hend.out.1, Hend.out.2.1, Hend.out.2.2.1, Hend.out.2.2.2.1, by have := Hend.out.2.2.2.2; omega⟩
          case measure => simp [intOf]; omega
      · have hlt' : ¬ ((k : Int) < (len : Int)) := by omega
        obtain rfl : k = len := by omega
        obtain ⟨g0, g1, g2⟩ := bxE_cells Hrr2.out
        obtain ⟨m0, m1, m2⟩ := bxE_cells Hrr1.out
        have z0 := Hrr1.out.frozen 0
        have z1 := Hrr1.out.frozen 1
        have z2 := Hrr1.out.frozen 2
        obtain ⟨⟨s0, s1, s2⟩, hg7, hb7⟩ := store6 (op := op) (n := n) (N := w.heap.size) (r1 := w.heap.size + 1) (by omega) (by omega) Hrr1.out Hgr.out Hb.out
        have Hg7 := hide hg7; have Hb7 := hide hb7
        clear hg7 hb7
        go_wp2_with fail
        clear g0 g1 g2 m0 m1 m2 z0 z1 z2
        generalize ((wr.setCell ⟨w.heap.size + 1, 0, none⟩ (.int .i64 op)).setCell ⟨w.heap.size + 1, 1, none⟩ (.int .i64 n)).setCell ⟨w.heap.size + 1, 2, none⟩ (.slice O k c) = w7 at *
        have Htr := hide (Hg7.out.tree op n)
        rw [List.take_of_length_le (by rw [Hlen.out]; exact Nat.le_refl _), ← Ht.out] at Htr
        refine bodyPost_ret (v := .agg #[.int .i64 op, .int .i64 n, .slice O k c]) (by simp [results, Try.results43, go_sem, s0, s1, s2]) rfl ?_
        exact ⟨⟨op, n, O, k, c⟩, rfl, RQ.keep (fun b hq => ⟨by have := hq.1; omega, hq.2⟩) (fun _ _ => rfl) _ _ _ _ _ _ _ Htr.out, Hb7.out⟩
end Go.Proofs.Ytkjclofkfmkbdaa
