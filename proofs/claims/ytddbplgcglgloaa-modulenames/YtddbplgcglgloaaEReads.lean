/- The walk of the reference's reads: which variables, into an array. -/
import Derived.Test.YtddbplgcglgloaaMEx
import Derived.Deep.OwnRows
import Derived.RegionTactic
import Derived.BigRegion
namespace Go.Proofs.Ytddbplgcglgloaa.Ex
open Go.RowKit
set_option linter.unusedSimpArgs false
set_option linter.unusedVariables false

/- only block g, and what is new, has turned -/
def Onl (g : Nat) (w w' : World) : Prop := w'.os = w.os ∧ w'.tape = w.tape ∧ w'.output = w.output ∧ w.heap.size ≤ w'.heap.size ∧ ∀ k, k < w.heap.size → k ≠ g → w'.heap[k]? = w.heap[k]?
theorem Onl.refl (g : Nat) (w : World) : Onl g w w := ⟨rfl, rfl, rfl, Nat.le_refl _, fun _ _ _ => rfl⟩
theorem Onl.trans {g : Nat} {a b c : World} (h : Onl g a b) (k : Onl g b c) : Onl g a c :=
  ⟨k.1.trans h.1, k.2.1.trans h.2.1, k.2.2.1.trans h.2.2.1, Nat.le_trans h.2.2.2.1 k.2.2.2.1, fun i hi hg => (k.2.2.2.2 i (Nat.lt_of_lt_of_le hi h.2.2.2.1) hg).trans (h.2.2.2.2 i hi hg)⟩
theorem Onl.size {g : Nat} {w w' : World} (h : Onl g w w') : w.heap.size ≤ w'.heap.size := h.2.2.2.1
theorem Onl.alloc {g : Nat} {a w : World} (h : Onl g a w) (o : Obj) : Onl g a (w.alloc o) :=
  h.trans ⟨rfl, rfl, rfl, by simp, fun k hk _ => Below.heap_alloc _ _ _ hk⟩
theorem Onl.set {g : Nat} {a w : World} (h : Onl g a w) (i : Nat) (u : Value) : Onl g a (w.setCell ⟨g, i, none⟩ u) :=
  h.trans ⟨rfl, rfl, rfl, by simp [World.setCell], fun k _ hg => Below.heap_setCell _ _ _ _ hg⟩
theorem Onl.drew {g : Nat} {a w : World} (h : Onl g a w) : Onl g a w.drew := ⟨h.1, h.2.1, h.2.2.1, h.2.2.2.1, h.2.2.2.2⟩
theorem Onl.below {g B : Nat} {w w' : World} (h : Onl g w w') (hg : B ≤ g) (hB : B ≤ w.heap.size) : Below B w w' :=
  ⟨h.1, h.2.1, h.2.2.1, h.2.2.2.1, fun k hk => h.2.2.2.2 k (by omega) (by omega)⟩
theorem Onl.cell {g : Nat} {w w' : World} (h : Onl g w w') {p : Addr} (hp : p.block < w.heap.size) (hg : p.block ≠ g) : w'.cell? p = w.cell? p := World.cell?_of_block (h.2.2.2.2 _ hp hg)

mutual
def rdT : T → Int → Nat → Bool
  | .mk o n ks, op, i => ((o == op) && (n == (i : Int))) || rdK ks op i
def rdK : List T → Int → Nat → Bool
  | [], _, _ => false
  | k :: r, op, i => rdT k op i || rdK r op i
end
theorem rdT_eq (t : T) (op : Int) (i : Nat) : rdT t op i = (((t.op == op) && (t.n == (i : Int))) || rdK t.kids op i) := by cases t; rw [rdT]; rfl
theorem rdK_snoc : ∀ (a : List T) (b : T) (op : Int) (i : Nat), rdK (a ++ [b]) op i = (rdK a op i || rdT b op i)
  | [], b, op, i => by simp [rdK]
  | c :: r, b, op, i => by rw [List.cons_append, rdK, rdK, rdK_snoc r b op i, Bool.or_assoc]
theorem soundK_at : ∀ (ks : List T) (k : Nat) (u : T), soundK ks = true → ks[k]? = some u → sound u = true
  | [], k, u, _, h => by simp at h
  | a :: r, 0, u, hs, h => by
    rw [soundK, Bool.and_eq_true] at hs
    simp at h; subst h; exact hs.1
  | a :: r, k + 1, u, hs, h => by
    rw [soundK, Bool.and_eq_true] at hs
    exact soundK_at r k u hs.2 (by simpa using h)
theorem sound_n {t : T} (h : sound t = true) {op : Int} (ho : op = 3 ∨ op = 4) (hop : t.op = op) : 0 ≤ t.n ∧ t.n < 6 := by
  rw [sound_eq, Bool.and_eq_true] at h
  have h1 := h.1
  unfold nodeB at h1
  rw [Bool.and_eq_true] at h1
  have h2 := h1.2
  have e1 : ¬ t.op = 1 := by rcases ho with h | h <;> omega
  have e2 : ¬ t.op = 2 := by rcases ho with h | h <;> omega
  have e3 : t.op = 3 ∨ t.op = 4 := by rcases ho with h | h <;> omega
  rw [if_neg e1, if_neg e2, if_pos e3] at h2
  simpa using h2
theorem sound_kids {t : T} (h : sound t = true) : soundK t.kids = true := by rw [sound_eq, Bool.and_eq_true] at h; exact h.2

def arrV (f : Nat → Bool) : Nat → Value := fun i => .bool (f i)
set_option maxHeartbeats 1000000 in
theorem rreads_any (B g : Nat) (opx : Int) (hox : opx = 3 ∨ opx = 4) : ∀ (d : Nat) (op n : Int) (A : Option Addr) (len cap : Nat) (t : T) (f : Nat → Bool) (w : World), B ≤ w.heap.size → B ≤ g → RE w B d op n A len cap t → sound t = true → w.rowIs g 86 6 (arrV f) →
    Calls Try.prog 49 #[.agg #[.int .i64 op, .int .i64 n, .slice A len cap], .int .i64 opx, .pointer (some ⟨g, 0, none⟩)] w fun e w' => e = .returned (.tuple #[]) ∧ w'.rowIs g 86 6 (arrV fun i => f i || rdT t opx i) ∧ Onl g w w' := by
  intro d
  induction d with
  | zero => intro op n A len cap t f w hB hg h; exact absurd h id
  | succ d ih =>
    intro op n A len cap t f w hB hg hre hsd hrow
    have IH := hide ih; clear ih
    have Hre := hide hre
    obtain ⟨hx1, hx2, hlen, hcap, hmx, hx6⟩ := hre
    unfold maxLen at hmx
    have Hlen := hide hlen
    have Hsd := hide hsd
    have Hrd : Hid (∀ i, rdT t opx i = (((op == opx) && (n == (i : Int))) || rdK t.kids opx i)) := hide (fun i => by rw [rdT_eq, hx1, hx2])
    have hgl := hrow.lt
    have Hrow := hide hrow
    have Hn : Hid (op = opx → 0 ≤ n ∧ n < 6) := hide (fun h => by have := sound_n hsd hox (by rw [hx1]; exact h); rw [hx2] at this; exact this)
    clear hlen hx1 hx2 hx6 hsd hrow
    have hob : Onl g w (w.alloc (.cells #[.int .i64 op, .int .i64 n, .slice A len cap] 25)) := (Onl.refl _ _).alloc _
    have Hbox := hide (box_new w op n A len cap 25)
    cases ho : op == opx
    · have ho' : ¬ op = opx := by simpa using ho
      have Hrow1 : Hid ((w.alloc (.cells #[.int .i64 op, .int .i64 n, .slice A len cap] 25)).rowIs g 86 6 (arrV fun i => f i || ((op == opx) && (n == (i : Int))))) := hide ((Hrow.out.alloc _).congr (fun i _ => by simp [arrV, ho]))
      clear ho'
      go_enter Try.func49, Try.ntmps49
      go_wp2_with fail
      generalize hW : w.alloc (.cells #[.int .i64 op, .int .i64 n, .slice A len cap] 25) = w2 at *
      clear hW
      go_loopw [20] (fun i wr => ∃ (k : Nat), k ≤ len ∧ i = .int .i64 k ∧ wr.rowIs g 86 6 (arrV fun i => (f i || ((op == opx) && (n == (i : Int)))) || rdK (t.kids.take k) opx i) ∧ Onl g w wr) (fun i _ => len - (intOf i).toNat)
      case atStart => exact ⟨0, Nat.zero_le _, rfl, Hrow1.out.congr (fun i _ => by simp [arrV, rdK]), hob⟩
      case round =>
        obtain ⟨k, hk, rfl, hrw, hb⟩ := hrel
        have hsz := hb.size
        by_cases hlt : k < len
        · have hlt' : ((k : Int) < (len : Int)) := by omega
          obtain ⟨b, off, u, op2, n2, A2, l2, c2, rfl, hbB, hku, ⟨c0, c1, cs⟩, hre2⟩ := (Hre.out.below (hb.below hg hB)).at_ hlt
          have Hsu := hide (soundK_at _ k u (sound_kids Hsd.out) hku)
          have Htk : Hid (∀ i, rdK (t.kids.take (k + 1)) opx i = (rdK (t.kids.take k) opx i || rdT u opx i)) := hide (fun i => by
            obtain ⟨hkl, e⟩ := List.getElem?_eq_some_iff.1 hku
            rw [List.take_succ_eq_append_getElem hkl, rdK_snoc, e])
          clear hku
          have Hre3 := hide (hre2.below ((Below.refl B wr).alloc (by omega) (.cells #[.int .i64 op2, .int .i64 n2, .slice A2 l2 c2] 25)))
          clear hre2
          have hbz : B ≤ (wr.alloc (.cells #[.int .i64 op2, .int .i64 n2, .slice A2 l2 c2] 25)).heap.size := by simp; omega
          have Hrw := hide (hrw.alloc (.cells #[.int .i64 op2, .int .i64 n2, .slice A2 l2 c2] 25))
          clear hrw
          go_wp2_with fail
          refine (IH.out op2 n2 A2 l2 c2 u _ _ hbz hg Hre3.out Hsu.out Hrw.out).mono ?_
          rintro e w3 ⟨rfl, hrow3, hon3⟩
          have Hrow3 := hide (hrow3.congr (g := arrV fun i => (f i || ((op == opx) && (n == (i : Int)))) || rdK (t.kids.take (k + 1)) opx i) (fun i _ => by simp only [arrV]; rw [Htk.out i, Bool.or_assoc]))
          have hbw3 := (hb.alloc _).trans hon3
          clear hrow3 hon3 c0 c1 cs Hre3 hbz Hrw Htk
          go_wp2_with fail
          go_roundw
          case rel => exact ⟨k + 1, by omega, by go_num, Hrow3.out, hbw3⟩
          case measure => simp [intOf]; omega
        · have hlt' : ¬ ((k : Int) < (len : Int)) := by omega
          have Hf := hide (hrw.congr (g := arrV fun i => f i || rdT t opx i) (fun i _ => by simp only [arrV]; rw [Hrd.out i, List.take_of_length_le (by rw [Hlen.out]; omega), Bool.or_assoc]))
          clear hrw
          go_wp2_with fail
          go_end0
          exact ⟨rfl, Hf.out, hb⟩
    · have ho' : op = opx := by simpa using ho
      obtain ⟨n0, n6⟩ := Hn.out ho'
      obtain ⟨q, rfl⟩ := Int.eq_ofNat_of_zero_le n0
      have hq : q < 6 := by omega
      have hq' : (q : Int) < 6 := by omega
      have hrow1 := Hrow.out.alloc (.cells #[.int .i64 op, .int .i64 (q : Int), .slice A len cap] 25)
      obtain ⟨u0, hu0⟩ : ∃ u, (w.alloc (.cells #[.int .i64 op, .int .i64 (q : Int), .slice A len cap] 25)).cell? ⟨g, q, none⟩ = some u := ⟨_, hrow1.cell hq⟩
      have hfz := hrow1.frozen q
      have Hrow1a := hide ((Hrow.out.set q (.bool true)).congr (g := arrV fun i => f i || ((op == opx) && ((q : Int) == (i : Int)))) (fun i hi => by
        simp only [arrV, ho, Bool.true_and]
        by_cases e : i = q
        · subst e; simp
        · rw [if_neg e]
          have : ((q : Int) == (i : Int)) = false := by rw [beq_eq_false_iff_ne]; omega
          rw [this, Bool.or_false]))
      clear ho' hrow1 n0 n6
      go_enter Try.func49, Try.ntmps49
      go_wp2_with fail
      go_region
      have Hrow1 := hide ((Hrow1a.out.alloc (.cells #[.int .i64 op, .int .i64 (q : Int), .slice A len cap] 25)).drew)
      clear hob hu0 hfz Hrow1a Hbox
      have hob : Onl g w ((w.setCell ⟨g, q, none⟩ (.bool true)).alloc (.cells #[.int .i64 op, .int .i64 (q : Int), .slice A len cap] 25)).drew := (((Onl.refl g w).set q _).alloc _).drew
      have hb2 : ((w.setCell ⟨g, q, none⟩ (.bool true)).alloc (.cells #[.int .i64 op, .int .i64 (q : Int), .slice A len cap] 25)).drew.cell? ⟨w.heap.size, 2, none⟩ = some (.slice A len cap) := by
        have := (box_new (w.setCell ⟨g, q, none⟩ (.bool true)) op (q : Int) A len cap 25).2.2
        simpa [World.setCell] using this
      go_wp2_with fail
      clear hb2
      generalize hW : ((w.setCell ⟨g, q, none⟩ (.bool true)).alloc (.cells #[.int .i64 op, .int .i64 (q : Int), .slice A len cap] 25)).drew = w2 at *
      clear hW
      go_loopw [20] (fun i wr => ∃ (k : Nat), k ≤ len ∧ i = .int .i64 k ∧ wr.rowIs g 86 6 (arrV fun i => (f i || ((op == opx) && ((q : Int) == (i : Int)))) || rdK (t.kids.take k) opx i) ∧ Onl g w wr) (fun i _ => len - (intOf i).toNat)
      case atStart => exact ⟨0, Nat.zero_le _, rfl, Hrow1.out.congr (fun i _ => by simp [arrV, rdK]), hob⟩
      case round =>
        obtain ⟨k, hk, rfl, hrw, hb⟩ := hrel
        have hsz := hb.size
        by_cases hlt : k < len
        · have hlt' : ((k : Int) < (len : Int)) := by omega
          obtain ⟨b, off, u, op2, n2, A2, l2, c2, rfl, hbB, hku, ⟨c0, c1, cs⟩, hre2⟩ := (Hre.out.below (hb.below hg hB)).at_ hlt
          have Hsu := hide (soundK_at _ k u (sound_kids Hsd.out) hku)
          have Htk : Hid (∀ i, rdK (t.kids.take (k + 1)) opx i = (rdK (t.kids.take k) opx i || rdT u opx i)) := hide (fun i => by
            obtain ⟨hkl, e⟩ := List.getElem?_eq_some_iff.1 hku
            rw [List.take_succ_eq_append_getElem hkl, rdK_snoc, e])
          clear hku
          have Hre3 := hide (hre2.below ((Below.refl B wr).alloc (by omega) (.cells #[.int .i64 op2, .int .i64 n2, .slice A2 l2 c2] 25)))
          clear hre2
          have hbz : B ≤ (wr.alloc (.cells #[.int .i64 op2, .int .i64 n2, .slice A2 l2 c2] 25)).heap.size := by simp; omega
          have Hrw := hide (hrw.alloc (.cells #[.int .i64 op2, .int .i64 n2, .slice A2 l2 c2] 25))
          clear hrw
          go_wp2_with fail
          refine (IH.out op2 n2 A2 l2 c2 u _ _ hbz hg Hre3.out Hsu.out Hrw.out).mono ?_
          rintro e w3 ⟨rfl, hrow3, hon3⟩
          have Hrow3 := hide (hrow3.congr (g := arrV fun i => (f i || ((op == opx) && ((q : Int) == (i : Int)))) || rdK (t.kids.take (k + 1)) opx i) (fun i _ => by simp only [arrV]; rw [Htk.out i, Bool.or_assoc]))
          have hbw3 := (hb.alloc _).trans hon3
          clear hrow3 hon3 c0 c1 cs Hre3 hbz Hrw Htk
          go_wp2_with fail
          go_roundw
          case rel => exact ⟨k + 1, by omega, by go_num, Hrow3.out, hbw3⟩
          case measure => simp [intOf]; omega
        · have hlt' : ¬ ((k : Int) < (len : Int)) := by omega
          have Hf := hide (hrw.congr (g := arrV fun i => f i || rdT t opx i) (fun i _ => by simp only [arrV]; rw [Hrd.out i, List.take_of_length_le (by rw [Hlen.out]; omega), Bool.or_assoc]))
          clear hrw
          go_wp2_with fail
          go_end0
          exact ⟨rfl, Hf.out, hb⟩
end Go.Proofs.Ytddbplgcglgloaa.Ex
