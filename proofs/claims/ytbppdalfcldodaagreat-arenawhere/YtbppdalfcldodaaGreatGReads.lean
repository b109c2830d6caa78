/- The walk of the reference's reads: which variables, into an array. The walk of the reference's Reads. The walks of the program's mark and Reads. How a slice of integers lies in memory; the walk of SameInts. The walk of the statements' own awake; how new expressions lie. What the statements need of expressions as trees. Contracts for calls within a region that draws its order. -/
import Derived.Test.YtbppdalfcldodaaGreatGEx
import Derived.Deep.OwnRows
import Derived.RegionTactic
import Derived.BigRegion
import Derived.Deep.AppendLies
import Derived.OwnWalk
import Derived.Laws.Bits64
namespace Go.Proofs.YtbppdalfcldodaaGreat.Ex
open Go.RowKit
set_option linter.unusedSimpArgs false
set_option linter.unusedVariables false

/- only block g, and what is new, has turned -/
def Onl (g : Nat) (w w' : World) : Prop := w'.os = w.os ∧ w'.tape = w.tape ∧ w'.output = w.output ∧ w.heap.size ≤ w'.heap.size ∧ ∀ k, k < w.heap.size → k ≠ g → w'.heap[k]? = w.heap[k]?
theorem Onl.refl (g : Nat) (w : World) : Onl g w w := ⟨rfl, rfl, rfl, Nat.le_refl _, fun _ _ _ => rfl⟩
theorem Onl.trans {g : Nat} {a b c : World} (h : Onl g a b) (k : Onl g b c) : Onl g a c :=
  ⟨k.1.trans h.1, k.2.1.trans h.2.1, k.2.2.1.trans h.2.2.1, Nat.le_trans h.2.2.2.1 k.2.2.2.1, fun i hi hg => (k.2.2.2.2 i (Nat.lt_of_lt_of_le hi h.2.2.2.1) hg).trans (h.2.2.2.2 i hi hg)⟩
theorem Onl.size {g : Nat} {w w' : World} (h : Onl g w w') : w.heap.size ≤ w'.heap.size := h.2.2.2.1
theorem Onl.alloc {g : Nat} {a w : World} (h : Onl g a w) (o : Obj) : Onl g a (w.alloc o) :=
  h.trans ⟨rfl, rfl, rfl, by simp, fun k hk _ => Below.heap_alloc _ _ _ hk⟩
theorem Onl.set {g : Nat} {a w : World} (h : Onl g a w) (i : Nat) (u : Value) : Onl g a (w.setCell ⟨g, i, none⟩ u) :=
  h.trans ⟨rfl, rfl, rfl, by simp [World.setCell], fun k _ hg => Below.heap_setCell _ _ _ _ hg⟩
theorem Onl.drew {g : Nat} {a w : World} (h : Onl g a w) : Onl g a w.drew := ⟨h.1, h.2.1, h.2.2.1, h.2.2.2.1, h.2.2.2.2⟩
theorem Onl.below {g B : Nat} {w w' : World} (h : Onl g w w') (hg : B ≤ g) (hB : B ≤ w.heap.size) : Below B w w' :=
  ⟨h.1, h.2.1, h.2.2.1, h.2.2.2.1, fun k hk => h.2.2.2.2 k (by omega) (by omega)⟩
theorem Onl.cell {g : Nat} {w w' : World} (h : Onl g w w') {p : Addr} (hp : p.block < w.heap.size) (hg : p.block ≠ g) : w'.cell? p = w.cell? p := World.cell?_of_block (h.2.2.2.2 _ hp hg)

mutual
def rdT : T → Int → Nat → Bool
  | .mk o n ks, op, i => ((o == op) && (n == (i : Int))) || rdK ks op i
def rdK : List T → Int → Nat → Bool
  | [], _, _ => false
  | k :: r, op, i => rdT k op i || rdK r op i
end
theorem rdT_eq (t : T) (op : Int) (i : Nat) : rdT t op i = (((t.op == op) && (t.n == (i : Int))) || rdK t.kids op i) := by cases t; rw [rdT]; rfl
theorem rdK_snoc : ∀ (a : List T) (b : T) (op : Int) (i : Nat), rdK (a ++ [b]) op i = (rdK a op i || rdT b op i)
  | [], b, op, i => by simp [rdK]
  | c :: r, b, op, i => by rw [List.cons_append, rdK, rdK, rdK_snoc r b op i, Bool.or_assoc]
theorem soundK_at : ∀ (ks : List T) (k : Nat) (u : T), soundK ks = true → ks[k]? = some u → sound u = true
  | [], k, u, _, h => by simp at h
  | a :: r, 0, u, hs, h => by
    rw [soundK, Bool.and_eq_true] at hs
    simp at h; subst h; exact hs.1
  | a :: r, k + 1, u, hs, h => by
    rw [soundK, Bool.and_eq_true] at hs
    exact soundK_at r k u hs.2 (by simpa using h)
theorem sound_n {t : T} (h : sound t = true) {op : Int} (ho : op = 3 ∨ op = 4) (hop : t.op = op) : 0 ≤ t.n ∧ t.n < 6 := by
  rw [sound_eq, Bool.and_eq_true] at h
  have h1 := h.1
  unfold nodeB at h1
  rw [Bool.and_eq_true] at h1
  have h2 := h1.2
  have e1 : ¬ t.op = 1 := by rcases ho with h | h <;> omega
  have e2 : ¬ t.op = 2 := by rcases ho with h | h <;> omega
  have e3 : t.op = 3 ∨ t.op = 4 := by rcases ho with h | h <;> omega
  rw [if_neg e1, if_neg e2, if_pos e3] at h2
  simpa using h2
theorem sound_kids {t : T} (h : sound t = true) : soundK t.kids = true := by rw [sound_eq, Bool.and_eq_true] at h; exact h.2

def arrV (f : Nat → Bool) : Nat → Value := fun i => .bool (f i)
set_option maxHeartbeats 1000000 in
theorem rreads_any (B g : Nat) (opx : Int) (hox : opx = 3 ∨ opx = 4) : ∀ (d : Nat) (op n : Int) (A : Option Addr) (len cap : Nat) (t : T) (f : Nat → Bool) (w : World), B ≤ w.heap.size → B ≤ g → RE w B d op n A len cap t → sound t = true → w.rowIs g 109 6 (arrV f) →
    Calls Tryz.prog 95 #[.agg #[.int .i64 op, .int .i64 n, .slice A len cap], .int .i64 opx, .pointer (some ⟨g, 0, none⟩)] w fun e w' => e = .returned (.tuple #[]) ∧ w'.rowIs g 109 6 (arrV fun i => f i || rdT t opx i) ∧ Onl g w w' := by
  intro d
  induction d with
  | zero => intro op n A len cap t f w hB hg h; exact absurd h id
  | succ d ih =>
    intro op n A len cap t f w hB hg hre hsd hrow
    have IH := hide ih; clear ih
    have Hre := hide hre
    obtain ⟨hx1, hx2, hlen, hcap, hmx, hx6⟩ := hre
    unfold maxLen at hmx
    have Hlen := hide hlen
    have Hsd := hide hsd
    have Hrd : Hid (∀ i, rdT t opx i = (((op == opx) && (n == (i : Int))) || rdK t.kids opx i)) := hide (fun i => by rw [rdT_eq, hx1, hx2])
    have hgl := hrow.lt
    have Hrow := hide hrow
    have Hn : Hid (op = opx → 0 ≤ n ∧ n < 6) := hide (fun h => by have := sound_n hsd hox (by rw [hx1]; exact h); rw [hx2] at this; exact this)
    clear hlen hx1 hx2 hx6 hsd hrow
    have hob : Onl g w (w.alloc (.cells #[.int .i64 op, .int .i64 n, .slice A len cap] 25)) := (Onl.refl _ _).alloc _
    have Hbox := hide (box_new w op n A len cap 25)
    cases ho : op == opx
    · have ho' : ¬ op = opx := by simpa using ho
      have Hrow1 : Hid ((w.alloc (.cells #[.int .i64 op, .int .i64 n, .slice A len cap] 25)).rowIs g 109 6 (arrV fun i => f i || ((op == opx) && (n == (i : Int))))) := hide ((Hrow.out.alloc _).congr (fun i _ => by simp [arrV, ho]))
      clear ho'
      go_enter Tryz.func95, Tryz.ntmps95
      go_wp2_with fail
      generalize hW : w.alloc (.cells #[.int .i64 op, .int .i64 n, .slice A len cap] 25) = w2 at *
      clear hW
      go_loopw [20] (fun i wr => ∃ (k : Nat), k ≤ len ∧ i = .int .i64 k ∧ wr.rowIs g 109 6 (arrV fun i => (f i || ((op == opx) && (n == (i : Int)))) || rdK (t.kids.take k) opx i) ∧ Onl g w wr) (fun i _ => len - (intOf i).toNat)
      case atStart => exact ⟨0, Nat.zero_le _, rfl, Hrow1.out.congr (fun i _ => by simp [arrV, rdK]), hob⟩
      case round =>
        obtain ⟨k, hk, rfl, hrw, hb⟩ := hrel
        have hsz := hb.size
        by_cases hlt : k < len
        · have hlt' : ((k : Int) < (len : Int)) := by omega
          obtain ⟨b, off, u, op2, n2, A2, l2, c2, rfl, hbB, hku, ⟨c0, c1, cs⟩, hre2⟩ := (Hre.out.below (hb.below hg hB)).at_ hlt
          have Hsu := hide (soundK_at _ k u (sound_kids Hsd.out) hku)
          have Htk : Hid (∀ i, rdK (t.kids.take (k + 1)) opx i = (rdK (t.kids.take k) opx i || rdT u opx i)) := hide (fun i => by
            obtain ⟨hkl, e⟩ := List.getElem?_eq_some_iff.1 hku
            rw [List.take_succ_eq_append_getElem hkl, rdK_snoc, e])
          clear hku
          have Hre3 := hide (hre2.below ((Below.refl B wr).alloc (by omega) (.cells #[.int .i64 op2, .int .i64 n2, .slice A2 l2 c2] 25)))
          clear hre2
          have hbz : B ≤ (wr.alloc (.cells #[.int .i64 op2, .int .i64 n2, .slice A2 l2 c2] 25)).heap.size := by simp; omega
          have Hrw := hide (hrw.alloc (.cells #[.int .i64 op2, .int .i64 n2, .slice A2 l2 c2] 25))
          clear hrw
          go_wp2_with fail
          refine (IH.out op2 n2 A2 l2 c2 u _ _ hbz hg Hre3.out Hsu.out Hrw.out).mono ?_
          rintro e w3 ⟨rfl, hrow3, hon3⟩
          have Hrow3 := hide (hrow3.congr (g := arrV fun i => (f i || ((op == opx) && (n == (i : Int)))) || rdK (t.kids.take (k + 1)) opx i) (fun i _ => by simp only [arrV]; rw [Htk.out i, Bool.or_assoc]))
          have hbw3 := (hb.alloc _).trans hon3
          clear hrow3 hon3 c0 c1 cs Hre3 hbz Hrw Htk
          go_wp2_with fail
          go_roundw
          case rel => exact ⟨k + 1, by omega, by go_num, Hrow3.out, hbw3⟩
          case measure => simp [intOf]; omega
        · have hlt' : ¬ ((k : Int) < (len : Int)) := by omega
          have Hf := hide (hrw.congr (g := arrV fun i => f i || rdT t opx i) (fun i _ => by simp only [arrV]; rw [Hrd.out i, List.take_of_length_le (by rw [Hlen.out]; omega), Bool.or_assoc]))
          clear hrw
          go_wp2_with fail
          go_end0
          exact ⟨rfl, Hf.out, hb⟩
    · have ho' : op = opx := by simpa using ho
      obtain ⟨n0, n6⟩ := Hn.out ho'
      obtain ⟨q, rfl⟩ := Int.eq_ofNat_of_zero_le n0
      have hq : q < 6 := by omega
      have hq' : (q : Int) < 6 := by omega
      have hrow1 := Hrow.out.alloc (.cells #[.int .i64 op, .int .i64 (q : Int), .slice A len cap] 25)
      obtain ⟨u0, hu0⟩ : ∃ u, (w.alloc (.cells #[.int .i64 op, .int .i64 (q : Int), .slice A len cap] 25)).cell? ⟨g, q, none⟩ = some u := ⟨_, hrow1.cell hq⟩
      have hfz := hrow1.frozen q
      have Hrow1a := hide ((Hrow.out.set q (.bool true)).congr (g := arrV fun i => f i || ((op == opx) && ((q : Int) == (i : Int)))) (fun i hi => by
        simp only [arrV, ho, Bool.true_and]
        by_cases e : i = q
        · subst e; simp
        · rw [if_neg e]
          have : ((q : Int) == (i : Int)) = false := by rw [beq_eq_false_iff_ne]; omega
          rw [this, Bool.or_false]))
      clear ho' hrow1 n0 n6
      go_enter Tryz.func95, Tryz.ntmps95
      go_wp2_with fail
      go_region
      have Hrow1 := hide ((Hrow1a.out.alloc (.cells #[.int .i64 op, .int .i64 (q : Int), .slice A len cap] 25)).drew)
      clear hob hu0 hfz Hrow1a Hbox
      have hob : Onl g w ((w.setCell ⟨g, q, none⟩ (.bool true)).alloc (.cells #[.int .i64 op, .int .i64 (q : Int), .slice A len cap] 25)).drew := (((Onl.refl g w).set q _).alloc _).drew
      have hb2 : ((w.setCell ⟨g, q, none⟩ (.bool true)).alloc (.cells #[.int .i64 op, .int .i64 (q : Int), .slice A len cap] 25)).drew.cell? ⟨w.heap.size, 2, none⟩ = some (.slice A len cap) := by
        have := (box_new (w.setCell ⟨g, q, none⟩ (.bool true)) op (q : Int) A len cap 25).2.2
        simpa [World.setCell] using this
      go_wp2_with fail
      clear hb2
      generalize hW : ((w.setCell ⟨g, q, none⟩ (.bool true)).alloc (.cells #[.int .i64 op, .int .i64 (q : Int), .slice A len cap] 25)).drew = w2 at *
      clear hW
      go_loopw [20] (fun i wr => ∃ (k : Nat), k ≤ len ∧ i = .int .i64 k ∧ wr.rowIs g 109 6 (arrV fun i => (f i || ((op == opx) && ((q : Int) == (i : Int)))) || rdK (t.kids.take k) opx i) ∧ Onl g w wr) (fun i _ => len - (intOf i).toNat)
      case atStart => exact ⟨0, Nat.zero_le _, rfl, Hrow1.out.congr (fun i _ => by simp [arrV, rdK]), hob⟩
      case round =>
        obtain ⟨k, hk, rfl, hrw, hb⟩ := hrel
        have hsz := hb.size
        by_cases hlt : k < len
        · have hlt' : ((k : Int) < (len : Int)) := by omega
          obtain ⟨b, off, u, op2, n2, A2, l2, c2, rfl, hbB, hku, ⟨c0, c1, cs⟩, hre2⟩ := (Hre.out.below (hb.below hg hB)).at_ hlt
          have Hsu := hide (soundK_at _ k u (sound_kids Hsd.out) hku)
          have Htk : Hid (∀ i, rdK (t.kids.take (k + 1)) opx i = (rdK (t.kids.take k) opx i || rdT u opx i)) := hide (fun i => by
            obtain ⟨hkl, e⟩ := List.getElem?_eq_some_iff.1 hku
            rw [List.take_succ_eq_append_getElem hkl, rdK_snoc, e])
          clear hku
          have Hre3 := hide (hre2.below ((Below.refl B wr).alloc (by omega) (.cells #[.int .i64 op2, .int .i64 n2, .slice A2 l2 c2] 25)))
          clear hre2
          have hbz : B ≤ (wr.alloc (.cells #[.int .i64 op2, .int .i64 n2, .slice A2 l2 c2] 25)).heap.size := by simp; omega
          have Hrw := hide (hrw.alloc (.cells #[.int .i64 op2, .int .i64 n2, .slice A2 l2 c2] 25))
          clear hrw
          go_wp2_with fail
          refine (IH.out op2 n2 A2 l2 c2 u _ _ hbz hg Hre3.out Hsu.out Hrw.out).mono ?_
          rintro e w3 ⟨rfl, hrow3, hon3⟩
          have Hrow3 := hide (hrow3.congr (g := arrV fun i => (f i || ((op == opx) && ((q : Int) == (i : Int)))) || rdK (t.kids.take (k + 1)) opx i) (fun i _ => by simp only [arrV]; rw [Htk.out i, Bool.or_assoc]))
          have hbw3 := (hb.alloc _).trans hon3
          clear hrow3 hon3 c0 c1 cs Hre3 hbz Hrw Htk
          go_wp2_with fail
          go_roundw
          case rel => exact ⟨k + 1, by omega, by go_num, Hrow3.out, hbw3⟩
          case measure => simp [intOf]; omega
        · have hlt' : ¬ ((k : Int) < (len : Int)) := by omega
          have Hf := hide (hrw.congr (g := arrV fun i => f i || rdT t opx i) (fun i _ => by simp only [arrV]; rw [Hrd.out i, List.take_of_length_le (by rw [Hlen.out]; omega), Bool.or_assoc]))
          clear hrw
          go_wp2_with fail
          go_end0
          exact ⟨rfl, Hf.out, hb⟩
end Go.Proofs.YtbppdalfcldodaaGreat.Ex
namespace Go.Proofs.YtbppdalfcldodaaGreat.Ex
open Go.RowKit
set_option linter.unusedSimpArgs false
set_option linter.unusedVariables false

def ints (xs : List Int) : List Value := xs.map (Value.int .i64)
def pickTo (F : Nat → Bool) (k : Nat) : List Int := ((List.range k).filter F).map (fun i : Nat => (i : Int))
theorem pickTo_succ (F : Nat → Bool) (k : Nat) : pickTo F (k + 1) = if F k = true then pickTo F k ++ [(k : Int)] else pickTo F k := by
  unfold pickTo
  rw [List.range_succ, List.filter_append]
  by_cases h : F k = true
  · simp [h]
  · simp [h]
theorem pickTo_len (F : Nat → Bool) (k : Nat) : (pickTo F k).length ≤ k := by
  unfold pickTo
  have := List.length_filter_le F (List.range k)
  simpa using this
def opOf (next : Bool) : Int := if next = true then 4 else 3
def readsE (t : T) (next : Bool) : List Int := if mayE t = 0 then pickTo (fun i => rdT t (opOf next) i) 6 else []
theorem may_sound {t : T} (h : mayE t = 0) : sound t = true := by
  unfold mayE at h
  split at h
  · omega
  · split at h
    · omega
    · rename_i h2; cases hs : sound t
      · exact absurd hs h2
      · rfl
def RefReads (w : World) (xs : List Int) (e : Ending) (w' : World) : Prop :=
  ∃ A n c, e = .returned (.slice A n c) ∧ w'.ownsRow w.heap.size 3 1 (.slice A n c) n (ints xs) ∧ xs.length = n ∧ Below w.heap.size w w'
theorem info3 : (Tryz.prog.info? 3).map (fun i => (i.zero, i.size, i.bytes)) = some (some (.int .i64 0), 1, 8) := by kernel_rfl
theorem arr_idx (F : Nat → Bool) (k : Nat) (hk : k < 6) (w : World) : (Instr.index 109 (.agg #[.bool (F 0), .bool (F 1), .bool (F 2), .bool (F 3), .bool (F 4), .bool (F 5)]) (.int .i64 (k : Int))).run Tryz.prog w = .ok (.bool (F k)) w := by
  have h : k = 0 ∨ k = 1 ∨ k = 2 ∨ k = 3 ∨ k = 4 ∨ k = 5 := by omega
  rcases h with rfl | rfl | rfl | rfl | rfl | rfl
  all_goals exact (show Sem.run Tryz.prog _ w = _ by kernel_rfl)

set_option maxRecDepth 100000 in
set_option maxHeartbeats 1000000 in
theorem rReads_any (B d : Nat) (op n : Int) (A : Option Addr) (len cap : Nat) (t : T) (next : Bool) (w : World) (hB : B ≤ w.heap.size) (hre : RE w B d op n A len cap t) :
    Calls Tryz.prog 65 #[.agg #[.int .i64 op, .int .i64 n, .slice A len cap], .bool next] w (RefReads w (readsE t next)) := by
  have Hre := hide (hre.below ((Below.refl B w).alloc hB (.cells #[.int .i64 op, .int .i64 n, .slice A len cap] 25)))
  clear hre
  have hbz : B ≤ (w.alloc (.cells #[.int .i64 op, .int .i64 n, .slice A len cap] 25)).heap.size := by simp; omega
  have Hbox := hide (box_new w op n A len cap 25)
  obtain ⟨i0, hi0, hz0, hz1, hz2⟩ := info_parts info3
  have Hi0 := hide hi0; have Hz0 := hide hz0; have Hz1 := hide hz1; have Hz2 := hide hz2
  clear hi0 hz0 hz1 hz2
  go_enter Tryz.func65, Tryz.ntmps65
  go_wp2_with fail
  refine (rmay_any B d op n A len cap t _ hbz Hre.out).mono ?_
  rintro e w1 ⟨rfl, hb1⟩
  have hz1 := hb1.size
  have hbw1 := below_box (Below.refl w.heap.size w) (Nat.le_refl _) hb1
  obtain ⟨d0, d1, d2⟩ := Hbox.out.below hb1 (by simp)
  have hzw : w.heap.size < w1.heap.size := by simp at hz1; omega
  have Hre1 := hide (Hre.out.below (hb1.mono hbz))
  have hbz1 : B ≤ w1.heap.size := by omega
  clear hb1 hbz Hre Hbox
  by_cases hm : mayE t = 0
  · have hmb : (mayE t != 0) = false := by simp [hm]
    have Hsd := hide (may_sound hm)
    have Hres : Hid (readsE t next = pickTo (fun i => rdT t (opOf next) i) 6) := hide (by unfold readsE; rw [if_pos hm])
    clear hm
    have hrow0 : (w1.alloc (.cells #[.bool false, .bool false, .bool false, .bool false, .bool false, .bool false] 109)).rowIs w1.heap.size 109 6 (arrV fun _ => false) := World.rowIs_alloc w1 _ 109 _ (fun i hi => by
      have h : i = 0 ∨ i = 1 ∨ i = 2 ∨ i = 3 ∨ i = 4 ∨ i = 5 := by simp at hi; omega
      rcases h with rfl | rfl | rfl | rfl | rfl | rfl <;> rfl)
    have Hrow0 := hide hrow0
    clear hrow0
    have Hre2 := hide (Hre1.out.below ((Below.refl B w1).alloc hbz1 (.cells #[.bool false, .bool false, .bool false, .bool false, .bool false, .bool false] 109)))
    have hbz2 : B ≤ (w1.alloc (.cells #[.bool false, .bool false, .bool false, .bool false, .bool false, .bool false] 109)).heap.size := by simp; omega
    cases next
    · go_wp2_with fail
      refine (rreads_any B w1.heap.size 3 (.inl rfl) d op n A len cap t (fun _ => false) _ hbz2 (by omega) Hre2.out Hsd.out Hrow0.out).mono ?_
      rintro e w2 ⟨rfl, hrow2, hon2⟩
      have hbw2 : Below w.heap.size w w2 := (hbw1.alloc (by omega) _).trans (hon2.below (by omega) (by simp; omega))
      have hz2 := hbw2.size
      have Hres2 : Hid (readsE t false = pickTo (fun i => rdT t 3 i) 6) := Hres
      have hrow3 : w2.rowIs w1.heap.size 109 6 (arrV fun i => rdT t 3 i) := hrow2.congr (fun i _ => by simp [arrV])
      clear hrow2
      generalize (fun i => rdT t 3 i) = F at *
      have a0 : w2.cell? ⟨w1.heap.size, 0, none⟩ = some (.bool (F 0)) := hrow3.cell (by omega)
      have a1 : w2.cell? ⟨w1.heap.size, 1, none⟩ = some (.bool (F 1)) := hrow3.cell (by omega)
      have a2 : w2.cell? ⟨w1.heap.size, 2, none⟩ = some (.bool (F 2)) := hrow3.cell (by omega)
      have a3 : w2.cell? ⟨w1.heap.size, 3, none⟩ = some (.bool (F 3)) := hrow3.cell (by omega)
      have a4 : w2.cell? ⟨w1.heap.size, 4, none⟩ = some (.bool (F 4)) := hrow3.cell (by omega)
      have a5 : w2.cell? ⟨w1.heap.size, 5, none⟩ = some (.bool (F 5)) := hrow3.cell (by omega)
      clear hrow3 hon2 d0 d1 d2 Hre1 Hre2 Hrow0 hbz2 Hres
      go_wp2_with fail
      clear a0 a1 a2 a3 a4 a5
      go_loopw [7, 18] (fun o i wr => ∃ (k m cc : Nat) (O : Option Addr), k ≤ 6 ∧ i = .int .i64 k ∧ o = .slice O m cc ∧ m ≤ k ∧ Hid ((pickTo F k).length = m) ∧ wr.ownsRow w.heap.size 3 1 (.slice O m cc) m (ints (pickTo F k)) ∧ Below w.heap.size w wr) (fun _ i _ => 6 - (intOf i).toNat)
      case atStart => exact ⟨0, 0, 0, none, by omega, rfl, rfl, by omega, hide rfl, ⟨rfl, .inl ⟨rfl, rfl⟩⟩, hbw2⟩
      case round =>
        obtain ⟨k, m, cc, O, hk, rfl, rfl, hmk, HL, hown, hb⟩ := hrel
        have hsz := hb.size
        by_cases hlt : k < 6
        · have hlt' : (k : Int) < 6 := by omega
          have hix := arr_idx F k hlt
          have Hps := hide (pickTo_succ F k)
          cases hF : F k
          · have Hp2 : Hid (pickTo F (k + 1) = pickTo F k) := hide (by rw [Hps.out, hF]; rfl)
            have Hown := hide hown
            clear hown
            go_wp2_with fail
            go_roundw
            case rel => exact ⟨k + 1, m, cc, O, by omega, by go_num, rfl, by omega, by rw [Hp2.out]; exact HL, by rw [Hp2.out]; exact Hown.out, hb⟩
            case measure => simp [intOf]; omega
          · have Hp2 : Hid (pickTo F (k + 1) = pickTo F k ++ [(k : Int)]) := hide (by rw [Hps.out, hF]; rfl)
            have Hown := hide hown
            clear hown
            go_wp2_with (at_builtin; refine wpList_append_lies _ rfl _ _ _ rfl w.heap.size 3 i0 _ 1 8 Tryz.underlying32 Hi0.out Hz0.out Hz1.out Hz2.out rfl (by omega) (.slice O m cc) m (ints (pickTo F k)) rfl (Hown.out.alloc _) ⟨wr.heap.size, 0, none⟩ 1 1 [.int .i64 (k : Int)] rfl rfl (World.news_of_block (cs := #[.int .i64 (k : Int)]) (t := 3) (fr := (0, 0)) (heap_alloc_new wr _)) (by simp [Value.oneCell']) (by omega) (by unfold maxLen; omega) (by omega) (by simp; omega) _ rfl ?_; intro gg cap w5 hown5 hgrow hat hlt5)
            have hbw5 : Below w.heap.size w w5 := (hb.alloc hsz _).grown hgrow (by simp; omega) (fun q hq => (Hown.out.lt q hq).1)
            have Hown5 : Hid (w5.ownsRow w.heap.size 3 1 (.slice (some ⟨gg, 0, none⟩) (m + 1) cap) (m + 1) (ints (pickTo F (k + 1)))) := hide (by rw [Hp2.out, ints, List.map_append]; exact hown5)
            have HL2 : Hid ((pickTo F (k + 1)).length = m + 1) := hide (by rw [Hp2.out, List.length_append, HL.out]; rfl)
            clear hown5 hgrow hat hlt5
            go_wp2_with fail
            go_roundw
            case rel => exact ⟨k + 1, m + 1, cap, some ⟨gg, 0, none⟩, by omega, by go_num, rfl, by omega, HL2, Hown5.out, hbw5⟩
            case measure => simp [intOf]; omega
        · have hlt' : ¬ (k : Int) < 6 := by omega
          obtain rfl : k = 6 := by omega
          have Hown := hide hown
          clear hown
          go_wp2_with fail
          go_ret
          exact ⟨O, m, cc, rfl, by rw [Hres2.out]; exact Hown.out, by rw [Hres2.out]; exact HL.out, hb⟩
    · go_wp2_with fail
      refine (rreads_any B w1.heap.size 4 (.inr rfl) d op n A len cap t (fun _ => false) _ hbz2 (by omega) Hre2.out Hsd.out Hrow0.out).mono ?_
      rintro e w2 ⟨rfl, hrow2, hon2⟩
      have hbw2 : Below w.heap.size w w2 := (hbw1.alloc (by omega) _).trans (hon2.below (by omega) (by simp; omega))
      have hz2 := hbw2.size
      have Hres2 : Hid (readsE t true = pickTo (fun i => rdT t 4 i) 6) := Hres
      have hrow3 : w2.rowIs w1.heap.size 109 6 (arrV fun i => rdT t 4 i) := hrow2.congr (fun i _ => by simp [arrV])
      clear hrow2
      generalize (fun i => rdT t 4 i) = F at *
      have a0 : w2.cell? ⟨w1.heap.size, 0, none⟩ = some (.bool (F 0)) := hrow3.cell (by omega)
      have a1 : w2.cell? ⟨w1.heap.size, 1, none⟩ = some (.bool (F 1)) := hrow3.cell (by omega)
      have a2 : w2.cell? ⟨w1.heap.size, 2, none⟩ = some (.bool (F 2)) := hrow3.cell (by omega)
      have a3 : w2.cell? ⟨w1.heap.size, 3, none⟩ = some (.bool (F 3)) := hrow3.cell (by omega)
      have a4 : w2.cell? ⟨w1.heap.size, 4, none⟩ = some (.bool (F 4)) := hrow3.cell (by omega)
      have a5 : w2.cell? ⟨w1.heap.size, 5, none⟩ = some (.bool (F 5)) := hrow3.cell (by omega)
      clear hrow3 hon2 d0 d1 d2 Hre1 Hre2 Hrow0 hbz2 Hres
      go_wp2_with fail
      clear a0 a1 a2 a3 a4 a5
      go_loopw [7, 18] (fun o i wr => ∃ (k m cc : Nat) (O : Option Addr), k ≤ 6 ∧ i = .int .i64 k ∧ o = .slice O m cc ∧ m ≤ k ∧ Hid ((pickTo F k).length = m) ∧ wr.ownsRow w.heap.size 3 1 (.slice O m cc) m (ints (pickTo F k)) ∧ Below w.heap.size w wr) (fun _ i _ => 6 - (intOf i).toNat)
      case atStart => exact ⟨0, 0, 0, none, by omega, rfl, rfl, by omega, hide rfl, ⟨rfl, .inl ⟨rfl, rfl⟩⟩, hbw2⟩
      case round =>
        obtain ⟨k, m, cc, O, hk, rfl, rfl, hmk, HL, hown, hb⟩ := hrel
        have hsz := hb.size
        by_cases hlt : k < 6
        · have hlt' : (k : Int) < 6 := by omega
          have hix := arr_idx F k hlt
          have Hps := hide (pickTo_succ F k)
          cases hF : F k
          · have Hp2 : Hid (pickTo F (k + 1) = pickTo F k) := hide (by rw [Hps.out, hF]; rfl)
            have Hown := hide hown
            clear hown
            go_wp2_with fail
            go_roundw
            case rel => exact ⟨k + 1, m, cc, O, by omega, by go_num, rfl, by omega, by rw [Hp2.out]; exact HL, by rw [Hp2.out]; exact Hown.out, hb⟩
            case measure => simp [intOf]; omega
          · have Hp2 : Hid (pickTo F (k + 1) = pickTo F k ++ [(k : Int)]) := hide (by rw [Hps.out, hF]; rfl)
            have Hown := hide hown
            clear hown
            go_wp2_with (at_builtin; refine wpList_append_lies _ rfl _ _ _ rfl w.heap.size 3 i0 _ 1 8 Tryz.underlying32 Hi0.out Hz0.out Hz1.out Hz2.out rfl (by omega) (.slice O m cc) m (ints (pickTo F k)) rfl (Hown.out.alloc _) ⟨wr.heap.size, 0, none⟩ 1 1 [.int .i64 (k : Int)] rfl rfl (World.news_of_block (cs := #[.int .i64 (k : Int)]) (t := 3) (fr := (0, 0)) (heap_alloc_new wr _)) (by simp [Value.oneCell']) (by omega) (by unfold maxLen; omega) (by omega) (by simp; omega) _ rfl ?_; intro gg cap w5 hown5 hgrow hat hlt5)
            have hbw5 : Below w.heap.size w w5 := (hb.alloc hsz _).grown hgrow (by simp; omega) (fun q hq => (Hown.out.lt q hq).1)
            have Hown5 : Hid (w5.ownsRow w.heap.size 3 1 (.slice (some ⟨gg, 0, none⟩) (m + 1) cap) (m + 1) (ints (pickTo F (k + 1)))) := hide (by rw [Hp2.out, ints, List.map_append]; exact hown5)
            have HL2 : Hid ((pickTo F (k + 1)).length = m + 1) := hide (by rw [Hp2.out, List.length_append, HL.out]; rfl)
            clear hown5 hgrow hat hlt5
            go_wp2_with fail
            go_roundw
            case rel => exact ⟨k + 1, m + 1, cap, some ⟨gg, 0, none⟩, by omega, by go_num, rfl, by omega, HL2, Hown5.out, hbw5⟩
            case measure => simp [intOf]; omega
        · have hlt' : ¬ (k : Int) < 6 := by omega
          obtain rfl : k = 6 := by omega
          have Hown := hide hown
          clear hown
          go_wp2_with fail
          go_ret
          exact ⟨O, m, cc, rfl, by rw [Hres2.out]; exact Hown.out, by rw [Hres2.out]; exact HL.out, hb⟩
  · have hmb : (mayE t != 0) = true := by simp [hm]
    have Hres : Hid (readsE t next = []) := hide (by unfold readsE; rw [if_neg hm])
    clear hm
    go_wp2_with fail
    go_ret
    exact ⟨none, 0, 0, rfl, by rw [Hres.out]; exact ⟨rfl, .inl ⟨rfl, rfl⟩⟩, by rw [Hres.out]; rfl, hbw1⟩
end Go.Proofs.YtbppdalfcldodaaGreat.Ex
namespace Go.Proofs.YtbppdalfcldodaaGreat.Ex
open Go.RowKit
set_option linter.unusedSimpArgs false
set_option linter.unusedVariables false

set_option maxHeartbeats 1000000 in
theorem mark_any (B g : Nat) (opx : Int) (hox : opx = 3 ∨ opx = 4) : ∀ (d : Nat) (op n : Int) (A : Option Addr) (len cap : Nat) (t : T) (f : Nat → Bool) (w : World), B ≤ w.heap.size → B ≤ g → RE w B d op n A len cap t → sound t = true → w.rowIs g 109 6 (arrV f) →
    Calls Tryz.prog 148 #[.agg #[.int .i64 op, .int .i64 n, .slice A len cap], .int .i64 opx, .pointer (some ⟨g, 0, none⟩)] w fun e w' => e = .returned (.tuple #[]) ∧ w'.rowIs g 109 6 (arrV fun i => f i || rdT t opx i) ∧ Onl g w w' := by
  intro d
  induction d with
  | zero => intro op n A len cap t f w hB hg h; exact absurd h id
  | succ d ih =>
    intro op n A len cap t f w hB hg hre hsd hrow
    have IH := hide ih; clear ih
    have Hre := hide hre
    obtain ⟨hx1, hx2, hlen, hcap, hmx, hx6⟩ := hre
    unfold maxLen at hmx
    have Hlen := hide hlen
    have Hsd := hide hsd
    have Hrd : Hid (∀ i, rdT t opx i = (((op == opx) && (n == (i : Int))) || rdK t.kids opx i)) := hide (fun i => by rw [rdT_eq, hx1, hx2])
    have hgl := hrow.lt
    have Hrow := hide hrow
    have Hn : Hid (op = opx → 0 ≤ n ∧ n < 6) := hide (fun h => by have := sound_n hsd hox (by rw [hx1]; exact h); rw [hx2] at this; exact this)
    clear hlen hx1 hx2 hx6 hsd hrow
    have hob : Onl g w (w.alloc (.cells #[.int .i64 op, .int .i64 n, .slice A len cap] 25)) := (Onl.refl _ _).alloc _
    have Hbox := hide (box_new w op n A len cap 25)
    cases ho : op == opx
    · have ho' : ¬ op = opx := by simpa using ho
      have Hrow1 : Hid ((w.alloc (.cells #[.int .i64 op, .int .i64 n, .slice A len cap] 25)).rowIs g 109 6 (arrV fun i => f i || ((op == opx) && (n == (i : Int))))) := hide ((Hrow.out.alloc _).congr (fun i _ => by simp [arrV, ho]))
      clear ho'
      go_enter Tryz.func148, Tryz.ntmps148
      go_wp2_with fail
      generalize hW : w.alloc (.cells #[.int .i64 op, .int .i64 n, .slice A len cap] 25) = w2 at *
      clear hW
      go_loopw [20] (fun i wr => ∃ (k : Nat), k ≤ len ∧ i = .int .i64 k ∧ wr.rowIs g 109 6 (arrV fun i => (f i || ((op == opx) && (n == (i : Int)))) || rdK (t.kids.take k) opx i) ∧ Onl g w wr) (fun i _ => len - (intOf i).toNat)
      case atStart => exact ⟨0, Nat.zero_le _, rfl, Hrow1.out.congr (fun i _ => by simp [arrV, rdK]), hob⟩
      case round =>
        obtain ⟨k, hk, rfl, hrw, hb⟩ := hrel
        have hsz := hb.size
        by_cases hlt : k < len
        · have hlt' : ((k : Int) < (len : Int)) := by omega
          obtain ⟨b, off, u, op2, n2, A2, l2, c2, rfl, hbB, hku, ⟨c0, c1, cs⟩, hre2⟩ := (Hre.out.below (hb.below hg hB)).at_ hlt
          have Hsu := hide (soundK_at _ k u (sound_kids Hsd.out) hku)
          have Htk : Hid (∀ i, rdK (t.kids.take (k + 1)) opx i = (rdK (t.kids.take k) opx i || rdT u opx i)) := hide (fun i => by
            obtain ⟨hkl, e⟩ := List.getElem?_eq_some_iff.1 hku
            rw [List.take_succ_eq_append_getElem hkl, rdK_snoc, e])
          clear hku
          have Hre3 := hide (hre2.below ((Below.refl B wr).alloc (by omega) (.cells #[.int .i64 op2, .int .i64 n2, .slice A2 l2 c2] 25)))
          clear hre2
          have hbz : B ≤ (wr.alloc (.cells #[.int .i64 op2, .int .i64 n2, .slice A2 l2 c2] 25)).heap.size := by simp; omega
          have Hrw := hide (hrw.alloc (.cells #[.int .i64 op2, .int .i64 n2, .slice A2 l2 c2] 25))
          clear hrw
          go_wp2_with fail
          refine (IH.out op2 n2 A2 l2 c2 u _ _ hbz hg Hre3.out Hsu.out Hrw.out).mono ?_
          rintro e w3 ⟨rfl, hrow3, hon3⟩
          have Hrow3 := hide (hrow3.congr (g := arrV fun i => (f i || ((op == opx) && (n == (i : Int)))) || rdK (t.kids.take (k + 1)) opx i) (fun i _ => by simp only [arrV]; rw [Htk.out i, Bool.or_assoc]))
          have hbw3 := (hb.alloc _).trans hon3
          clear hrow3 hon3 c0 c1 cs Hre3 hbz Hrw Htk
          go_wp2_with fail
          go_roundw
          case rel => exact ⟨k + 1, by omega, by go_num, Hrow3.out, hbw3⟩
          case measure => simp [intOf]; omega
        · have hlt' : ¬ ((k : Int) < (len : Int)) := by omega
          have Hf := hide (hrw.congr (g := arrV fun i => f i || rdT t opx i) (fun i _ => by simp only [arrV]; rw [Hrd.out i, List.take_of_length_le (by rw [Hlen.out]; omega), Bool.or_assoc]))
          clear hrw
          go_wp2_with fail
          go_end0
          exact ⟨rfl, Hf.out, hb⟩
    · have ho' : op = opx := by simpa using ho
      obtain ⟨n0, n6⟩ := Hn.out ho'
      obtain ⟨q, rfl⟩ := Int.eq_ofNat_of_zero_le n0
      have hq : q < 6 := by omega
      have hq' : (q : Int) < 6 := by omega
      have hrow1 := Hrow.out.alloc (.cells #[.int .i64 op, .int .i64 (q : Int), .slice A len cap] 25)
      obtain ⟨u0, hu0⟩ : ∃ u, (w.alloc (.cells #[.int .i64 op, .int .i64 (q : Int), .slice A len cap] 25)).cell? ⟨g, q, none⟩ = some u := ⟨_, hrow1.cell hq⟩
      have hfz := hrow1.frozen q
      have Hrow1a := hide ((Hrow.out.set q (.bool true)).congr (g := arrV fun i => f i || ((op == opx) && ((q : Int) == (i : Int)))) (fun i hi => by
        simp only [arrV, ho, Bool.true_and]
        by_cases e : i = q
        · subst e; simp
        · rw [if_neg e]
          have : ((q : Int) == (i : Int)) = false := by rw [beq_eq_false_iff_ne]; omega
          rw [this, Bool.or_false]))
      clear ho' hrow1 n0 n6
      go_enter Tryz.func148, Tryz.ntmps148
      go_wp2_with fail
      go_region
      have Hrow1 := hide ((Hrow1a.out.alloc (.cells #[.int .i64 op, .int .i64 (q : Int), .slice A len cap] 25)).drew)
      clear hob hu0 hfz Hrow1a Hbox
      have hob : Onl g w ((w.setCell ⟨g, q, none⟩ (.bool true)).alloc (.cells #[.int .i64 op, .int .i64 (q : Int), .slice A len cap] 25)).drew := (((Onl.refl g w).set q _).alloc _).drew
      have hb2 : ((w.setCell ⟨g, q, none⟩ (.bool true)).alloc (.cells #[.int .i64 op, .int .i64 (q : Int), .slice A len cap] 25)).drew.cell? ⟨w.heap.size, 2, none⟩ = some (.slice A len cap) := by
        have := (box_new (w.setCell ⟨g, q, none⟩ (.bool true)) op (q : Int) A len cap 25).2.2
        simpa [World.setCell] using this
      go_wp2_with fail
      clear hb2
      generalize hW : ((w.setCell ⟨g, q, none⟩ (.bool true)).alloc (.cells #[.int .i64 op, .int .i64 (q : Int), .slice A len cap] 25)).drew = w2 at *
      clear hW
      go_loopw [20] (fun i wr => ∃ (k : Nat), k ≤ len ∧ i = .int .i64 k ∧ wr.rowIs g 109 6 (arrV fun i => (f i || ((op == opx) && ((q : Int) == (i : Int)))) || rdK (t.kids.take k) opx i) ∧ Onl g w wr) (fun i _ => len - (intOf i).toNat)
      case atStart => exact ⟨0, Nat.zero_le _, rfl, Hrow1.out.congr (fun i _ => by simp [arrV, rdK]), hob⟩
      case round =>
        obtain ⟨k, hk, rfl, hrw, hb⟩ := hrel
        have hsz := hb.size
        by_cases hlt : k < len
        · have hlt' : ((k : Int) < (len : Int)) := by omega
          obtain ⟨b, off, u, op2, n2, A2, l2, c2, rfl, hbB, hku, ⟨c0, c1, cs⟩, hre2⟩ := (Hre.out.below (hb.below hg hB)).at_ hlt
          have Hsu := hide (soundK_at _ k u (sound_kids Hsd.out) hku)
          have Htk : Hid (∀ i, rdK (t.kids.take (k + 1)) opx i = (rdK (t.kids.take k) opx i || rdT u opx i)) := hide (fun i => by
            obtain ⟨hkl, e⟩ := List.getElem?_eq_some_iff.1 hku
            rw [List.take_succ_eq_append_getElem hkl, rdK_snoc, e])
          clear hku
          have Hre3 := hide (hre2.below ((Below.refl B wr).alloc (by omega) (.cells #[.int .i64 op2, .int .i64 n2, .slice A2 l2 c2] 25)))
          clear hre2
          have hbz : B ≤ (wr.alloc (.cells #[.int .i64 op2, .int .i64 n2, .slice A2 l2 c2] 25)).heap.size := by simp; omega
          have Hrw := hide (hrw.alloc (.cells #[.int .i64 op2, .int .i64 n2, .slice A2 l2 c2] 25))
          clear hrw
          go_wp2_with fail
          refine (IH.out op2 n2 A2 l2 c2 u _ _ hbz hg Hre3.out Hsu.out Hrw.out).mono ?_
          rintro e w3 ⟨rfl, hrow3, hon3⟩
          have Hrow3 := hide (hrow3.congr (g := arrV fun i => (f i || ((op == opx) && ((q : Int) == (i : Int)))) || rdK (t.kids.take (k + 1)) opx i) (fun i _ => by simp only [arrV]; rw [Htk.out i, Bool.or_assoc]))
          have hbw3 := (hb.alloc _).trans hon3
          clear hrow3 hon3 c0 c1 cs Hre3 hbz Hrw Htk
          go_wp2_with fail
          go_roundw
          case rel => exact ⟨k + 1, by omega, by go_num, Hrow3.out, hbw3⟩
          case measure => simp [intOf]; omega
        · have hlt' : ¬ ((k : Int) < (len : Int)) := by omega
          have Hf := hide (hrw.congr (g := arrV fun i => f i || rdT t opx i) (fun i _ => by simp only [arrV]; rw [Hrd.out i, List.take_of_length_le (by rw [Hlen.out]; omega), Bool.or_assoc]))
          clear hrw
          go_wp2_with fail
          go_end0
          exact ⟨rfl, Hf.out, hb⟩
set_option maxRecDepth 100000 in
set_option maxHeartbeats 1000000 in
theorem reads_any (B d : Nat) (op n : Int) (A : Option Addr) (len cap : Nat) (t : T) (next : Bool) (w : World) (hB : B ≤ w.heap.size) (hre : RE w B d op n A len cap t) :
    Calls Tryz.prog 125 #[.agg #[.int .i64 op, .int .i64 n, .slice A len cap], .bool next] w (RefReads w (readsE t next)) := by
  have Hre := hide (hre.below ((Below.refl B w).alloc hB (.cells #[.int .i64 op, .int .i64 n, .slice A len cap] 25)))
  clear hre
  have hbz : B ≤ (w.alloc (.cells #[.int .i64 op, .int .i64 n, .slice A len cap] 25)).heap.size := by simp; omega
  have Hbox := hide (box_new w op n A len cap 25)
  obtain ⟨i0, hi0, hz0, hz1, hz2⟩ := info_parts info3
  have Hi0 := hide hi0; have Hz0 := hide hz0; have Hz1 := hide hz1; have Hz2 := hide hz2
  clear hi0 hz0 hz1 hz2
  go_enter Tryz.func125, Tryz.ntmps125
  go_wp2_with fail
  refine (may_any B d op n A len cap t _ hbz Hre.out).mono ?_
  rintro e w1 ⟨rfl, hb1⟩
  have hz1 := hb1.size
  have hbw1 := below_box (Below.refl w.heap.size w) (Nat.le_refl _) hb1
  obtain ⟨d0, d1, d2⟩ := Hbox.out.below hb1 (by simp)
  have hzw : w.heap.size < w1.heap.size := by simp at hz1; omega
  have Hre1 := hide (Hre.out.below (hb1.mono hbz))
  have hbz1 : B ≤ w1.heap.size := by omega
  clear hb1 hbz Hre Hbox
  by_cases hm : mayE t = 0
  · have hmb : (mayE t != 0) = false := by simp [hm]
    have Hsd := hide (may_sound hm)
    have Hres : Hid (readsE t next = pickTo (fun i => rdT t (opOf next) i) 6) := hide (by unfold readsE; rw [if_pos hm])
    clear hm
    have hrow0 : (w1.alloc (.cells #[.bool false, .bool false, .bool false, .bool false, .bool false, .bool false] 109)).rowIs w1.heap.size 109 6 (arrV fun _ => false) := World.rowIs_alloc w1 _ 109 _ (fun i hi => by
      have h : i = 0 ∨ i = 1 ∨ i = 2 ∨ i = 3 ∨ i = 4 ∨ i = 5 := by simp at hi; omega
      rcases h with rfl | rfl | rfl | rfl | rfl | rfl <;> rfl)
    have Hrow0 := hide hrow0
    clear hrow0
    have Hre2 := hide (Hre1.out.below ((Below.refl B w1).alloc hbz1 (.cells #[.bool false, .bool false, .bool false, .bool false, .bool false, .bool false] 109)))
    have hbz2 : B ≤ (w1.alloc (.cells #[.bool false, .bool false, .bool false, .bool false, .bool false, .bool false] 109)).heap.size := by simp; omega
    cases next
    · go_wp2_with fail
      refine (mark_any B w1.heap.size 3 (.inl rfl) d op n A len cap t (fun _ => false) _ hbz2 (by omega) Hre2.out Hsd.out Hrow0.out).mono ?_
      rintro e w2 ⟨rfl, hrow2, hon2⟩
      have hbw2 : Below w.heap.size w w2 := (hbw1.alloc (by omega) _).trans (hon2.below (by omega) (by simp; omega))
      have hz2 := hbw2.size
      have Hres2 : Hid (readsE t false = pickTo (fun i => rdT t 3 i) 6) := Hres
      have hrow3 : w2.rowIs w1.heap.size 109 6 (arrV fun i => rdT t 3 i) := hrow2.congr (fun i _ => by simp [arrV])
      clear hrow2
      generalize (fun i => rdT t 3 i) = F at *
      have a0 : w2.cell? ⟨w1.heap.size, 0, none⟩ = some (.bool (F 0)) := hrow3.cell (by omega)
      have a1 : w2.cell? ⟨w1.heap.size, 1, none⟩ = some (.bool (F 1)) := hrow3.cell (by omega)
      have a2 : w2.cell? ⟨w1.heap.size, 2, none⟩ = some (.bool (F 2)) := hrow3.cell (by omega)
      have a3 : w2.cell? ⟨w1.heap.size, 3, none⟩ = some (.bool (F 3)) := hrow3.cell (by omega)
      have a4 : w2.cell? ⟨w1.heap.size, 4, none⟩ = some (.bool (F 4)) := hrow3.cell (by omega)
      have a5 : w2.cell? ⟨w1.heap.size, 5, none⟩ = some (.bool (F 5)) := hrow3.cell (by omega)
      clear hrow3 hon2 d0 d1 d2 Hre1 Hre2 Hrow0 hbz2 Hres
      go_wp2_with fail
      clear a0 a1 a2 a3 a4 a5
      go_loopw [7, 18] (fun o i wr => ∃ (k m cc : Nat) (O : Option Addr), k ≤ 6 ∧ i = .int .i64 k ∧ o = .slice O m cc ∧ m ≤ k ∧ Hid ((pickTo F k).length = m) ∧ wr.ownsRow w.heap.size 3 1 (.slice O m cc) m (ints (pickTo F k)) ∧ Below w.heap.size w wr) (fun _ i _ => 6 - (intOf i).toNat)
      case atStart => exact ⟨0, 0, 0, none, by omega, rfl, rfl, by omega, hide rfl, ⟨rfl, .inl ⟨rfl, rfl⟩⟩, hbw2⟩
      case round =>
        obtain ⟨k, m, cc, O, hk, rfl, rfl, hmk, HL, hown, hb⟩ := hrel
        have hsz := hb.size
        by_cases hlt : k < 6
        · have hlt' : (k : Int) < 6 := by omega
          have hix := arr_idx F k hlt
          have Hps := hide (pickTo_succ F k)
          cases hF : F k
          · have Hp2 : Hid (pickTo F (k + 1) = pickTo F k) := hide (by rw [Hps.out, hF]; rfl)
            have Hown := hide hown
            clear hown
            go_wp2_with fail
            go_roundw
            case rel => exact ⟨k + 1, m, cc, O, by omega, by go_num, rfl, by omega, by rw [Hp2.out]; exact HL, by rw [Hp2.out]; exact Hown.out, hb⟩
            case measure => simp [intOf]; omega
          · have Hp2 : Hid (pickTo F (k + 1) = pickTo F k ++ [(k : Int)]) := hide (by rw [Hps.out, hF]; rfl)
            have Hown := hide hown
            clear hown
            go_wp2_with (at_builtin; refine wpList_append_lies _ rfl _ _ _ rfl w.heap.size 3 i0 _ 1 8 Tryz.underlying32 Hi0.out Hz0.out Hz1.out Hz2.out rfl (by omega) (.slice O m cc) m (ints (pickTo F k)) rfl (Hown.out.alloc _) ⟨wr.heap.size, 0, none⟩ 1 1 [.int .i64 (k : Int)] rfl rfl (World.news_of_block (cs := #[.int .i64 (k : Int)]) (t := 3) (fr := (0, 0)) (heap_alloc_new wr _)) (by simp [Value.oneCell']) (by omega) (by unfold maxLen; omega) (by omega) (by simp; omega) _ rfl ?_; intro gg cap w5 hown5 hgrow hat hlt5)
            have hbw5 : Below w.heap.size w w5 := (hb.alloc hsz _).grown hgrow (by simp; omega) (fun q hq => (Hown.out.lt q hq).1)
            have Hown5 : Hid (w5.ownsRow w.heap.size 3 1 (.slice (some ⟨gg, 0, none⟩) (m + 1) cap) (m + 1) (ints (pickTo F (k + 1)))) := hide (by rw [Hp2.out, ints, List.map_append]; exact hown5)
            have HL2 : Hid ((pickTo F (k + 1)).length = m + 1) := hide (by rw [Hp2.out, List.length_append, HL.out]; rfl)
            clear hown5 hgrow hat hlt5
            go_wp2_with fail
            go_roundw
            case rel => exact ⟨k + 1, m + 1, cap, some ⟨gg, 0, none⟩, by omega, by go_num, rfl, by omega, HL2, Hown5.out, hbw5⟩
            case measure => simp [intOf]; omega
        · have hlt' : ¬ (k : Int) < 6 := by omega
          obtain rfl : k = 6 := by omega
          have Hown := hide hown
          clear hown
          go_wp2_with fail
          go_ret
          exact ⟨O, m, cc, rfl, by rw [Hres2.out]; exact Hown.out, by rw [Hres2.out]; exact HL.out, hb⟩
    · go_wp2_with fail
      refine (mark_any B w1.heap.size 4 (.inr rfl) d op n A len cap t (fun _ => false) _ hbz2 (by omega) Hre2.out Hsd.out Hrow0.out).mono ?_
      rintro e w2 ⟨rfl, hrow2, hon2⟩
      have hbw2 : Below w.heap.size w w2 := (hbw1.alloc (by omega) _).trans (hon2.below (by omega) (by simp; omega))
      have hz2 := hbw2.size
      have Hres2 : Hid (readsE t true = pickTo (fun i => rdT t 4 i) 6) := Hres
      have hrow3 : w2.rowIs w1.heap.size 109 6 (arrV fun i => rdT t 4 i) := hrow2.congr (fun i _ => by simp [arrV])
      clear hrow2
      generalize (fun i => rdT t 4 i) = F at *
      have a0 : w2.cell? ⟨w1.heap.size, 0, none⟩ = some (.bool (F 0)) := hrow3.cell (by omega)
      have a1 : w2.cell? ⟨w1.heap.size, 1, none⟩ = some (.bool (F 1)) := hrow3.cell (by omega)
      have a2 : w2.cell? ⟨w1.heap.size, 2, none⟩ = some (.bool (F 2)) := hrow3.cell (by omega)
      have a3 : w2.cell? ⟨w1.heap.size, 3, none⟩ = some (.bool (F 3)) := hrow3.cell (by omega)
      have a4 : w2.cell? ⟨w1.heap.size, 4, none⟩ = some (.bool (F 4)) := hrow3.cell (by omega)
      have a5 : w2.cell? ⟨w1.heap.size, 5, none⟩ = some (.bool (F 5)) := hrow3.cell (by omega)
      clear hrow3 hon2 d0 d1 d2 Hre1 Hre2 Hrow0 hbz2 Hres
      go_wp2_with fail
      clear a0 a1 a2 a3 a4 a5
      go_loopw [7, 18] (fun o i wr => ∃ (k m cc : Nat) (O : Option Addr), k ≤ 6 ∧ i = .int .i64 k ∧ o = .slice O m cc ∧ m ≤ k ∧ Hid ((pickTo F k).length = m) ∧ wr.ownsRow w.heap.size 3 1 (.slice O m cc) m (ints (pickTo F k)) ∧ Below w.heap.size w wr) (fun _ i _ => 6 - (intOf i).toNat)
      case atStart => exact ⟨0, 0, 0, none, by omega, rfl, rfl, by omega, hide rfl, ⟨rfl, .inl ⟨rfl, rfl⟩⟩, hbw2⟩
      case round =>
        obtain ⟨k, m, cc, O, hk, rfl, rfl, hmk, HL, hown, hb⟩ := hrel
        have hsz := hb.size
        by_cases hlt : k < 6
        · have hlt' : (k : Int) < 6 := by omega
          have hix := arr_idx F k hlt
          have Hps := hide (pickTo_succ F k)
          cases hF : F k
          · have Hp2 : Hid (pickTo F (k + 1) = pickTo F k) := hide (by rw [Hps.out, hF]; rfl)
            have Hown := hide hown
            clear hown
            go_wp2_with fail
            go_roundw
            case rel => exact ⟨k + 1, m, cc, O, by omega, by go_num, rfl, by omega, by rw [Hp2.out]; exact HL, by rw [Hp2.out]; exact Hown.out, hb⟩
            case measure => simp [intOf]; omega
          · have Hp2 : Hid (pickTo F (k + 1) = pickTo F k ++ [(k : Int)]) := hide (by rw [Hps.out, hF]; rfl)
            have Hown := hide hown
            clear hown
            go_wp2_with (at_builtin; refine wpList_append_lies _ rfl _ _ _ rfl w.heap.size 3 i0 _ 1 8 Tryz.underlying32 Hi0.out Hz0.out Hz1.out Hz2.out rfl (by omega) (.slice O m cc) m (ints (pickTo F k)) rfl (Hown.out.alloc _) ⟨wr.heap.size, 0, none⟩ 1 1 [.int .i64 (k : Int)] rfl rfl (World.news_of_block (cs := #[.int .i64 (k : Int)]) (t := 3) (fr := (0, 0)) (heap_alloc_new wr _)) (by simp [Value.oneCell']) (by omega) (by unfold maxLen; omega) (by omega) (by simp; omega) _ rfl ?_; intro gg cap w5 hown5 hgrow hat hlt5)
            have hbw5 : Below w.heap.size w w5 := (hb.alloc hsz _).grown hgrow (by simp; omega) (fun q hq => (Hown.out.lt q hq).1)
            have Hown5 : Hid (w5.ownsRow w.heap.size 3 1 (.slice (some ⟨gg, 0, none⟩) (m + 1) cap) (m + 1) (ints (pickTo F (k + 1)))) := hide (by rw [Hp2.out, ints, List.map_append]; exact hown5)
            have HL2 : Hid ((pickTo F (k + 1)).length = m + 1) := hide (by rw [Hp2.out, List.length_append, HL.out]; rfl)
            clear hown5 hgrow hat hlt5
            go_wp2_with fail
            go_roundw
            case rel => exact ⟨k + 1, m + 1, cap, some ⟨gg, 0, none⟩, by omega, by go_num, rfl, by omega, HL2, Hown5.out, hbw5⟩
            case measure => simp [intOf]; omega
        · have hlt' : ¬ (k : Int) < 6 := by omega
          obtain rfl : k = 6 := by omega
          have Hown := hide hown
          clear hown
          go_wp2_with fail
          go_ret
          exact ⟨O, m, cc, rfl, by rw [Hres2.out]; exact Hown.out, by rw [Hres2.out]; exact HL.out, hb⟩
  · have hmb : (mayE t != 0) = true := by simp [hm]
    have Hres : Hid (readsE t next = []) := hide (by unfold readsE; rw [if_neg hm])
    clear hm
    go_wp2_with fail
    go_ret
    exact ⟨none, 0, 0, rfl, by rw [Hres.out]; exact ⟨rfl, .inl ⟨rfl, rfl⟩⟩, by rw [Hres.out]; rfl, hbw1⟩
end Go.Proofs.YtbppdalfcldodaaGreat.Ex
namespace Go.Proofs.YtbppdalfcldodaaGreat.Ex
open Go.RowKit
set_option linter.unusedSimpArgs false
set_option linter.unusedVariables false

def RI (w : World) (B : Nat) (A : Option Addr) (n : Nat) (l : List Int) : Prop :=
  l.length = n ∧ (0 < n → ∃ b off, A = some ⟨b, off, none⟩ ∧ b < B ∧ ∀ k x, l[k]? = some x → w.cell? ⟨b, off + k, none⟩ = some (.int .i64 x))
section
variable {w w' : World} {B B' n : Nat} {A : Option Addr} {xs : List Int}
theorem RI.keep (h : RI w B A n xs) (hk : ∀ p : Addr, p.block < B → w'.cell? p = w.cell? p) : RI w' B A n xs :=
  ⟨h.1, fun hn => by
    obtain ⟨b, off, e, hb, hc⟩ := h.2 hn
    exact ⟨b, off, e, hb, fun k v hv => (hk _ (by exact hb)).trans (hc k v hv)⟩⟩
theorem RI.below (h : RI w B A n xs) (hb : Below B w w') : RI w' B A n xs := h.keep fun _ hp => hb.cell hp
theorem RI.more (h : RI w B A n xs) (hB : B ≤ B') : RI w B' A n xs :=
  ⟨h.1, fun hn => by
    obtain ⟨b, off, e, hb, hc⟩ := h.2 hn
    exact ⟨b, off, e, by omega, hc⟩⟩
theorem RI.at_ {k : Nat} (h : RI w B A n xs) (hk : k < n) : ∃ b off x, A = some ⟨b, off, none⟩ ∧ b < B ∧ xs[k]? = some x ∧ w.cell? ⟨b, off + k, none⟩ = some (.int .i64 x) := by
  obtain ⟨b, off, e, hb, hc⟩ := h.2 (by omega)
  have hl : k < xs.length := by have := h.1; omega
  exact ⟨b, off, xs[k], e, hb, List.getElem?_eq_getElem hl, hc k _ (List.getElem?_eq_getElem hl)⟩
end

theorem own_ri {w : World} {base n c : Nat} {A : Option Addr} {xs : List Int} (h : w.ownsRow base 3 1 (.slice A n c) n (ints xs)) : RI w w.heap.size A n xs := by
  have hl : xs.length = n := by have := h.1; simpa [ints] using this
  refine ⟨hl, fun hn => ?_⟩
  obtain ⟨g, cap, hv, hb, hlt⟩ := h.form hn
  have hA : A = some ⟨g, 0, none⟩ := by injection hv
  subst hA
  refine ⟨g, 0, rfl, hlt, fun k x hx => ?_⟩
  have := h.cells (g := g) rfl k (.int .i64 x) (by simp [ints, hx])
  rw [Nat.zero_add]
  by_cases hk : k = 0
  · subst hk; simpa [Addr.add] using this
  · simpa [Addr.add, hk] using this
end Go.Proofs.YtbppdalfcldodaaGreat.Ex
namespace Go.Proofs.YtbppdalfcldodaaGreat.Ex
open Go.RowKit
set_option linter.unusedSimpArgs false
set_option linter.unusedVariables false

theorem RE.leaf (w : World) (B d : Nat) (op n : Int) : RE w B (d + 1) op n none 0 0 (.mk op n []) :=
  ⟨rfl, rfl, rfl, Nat.le_refl _, by unfold maxLen; omega, fun h => absurd h (by omega)⟩
theorem RE.node {w : World} {B d : Nat} {op n : Int} {b off len cap : Nat} {ks : List T} (hlen : ks.length = len) (hlc : len ≤ cap) (hcap : cap ≤ maxLen) (hb : b < B)
    (h : ∀ k u, ks[k]? = some u → ∃ op2 n2 A2 l2 c2, CellE w b (off + k * 3) op2 n2 A2 l2 c2 ∧ RE w B d op2 n2 A2 l2 c2 u) : RE w B (d + 1) op n (some ⟨b, off, none⟩) len cap (.mk op n ks) :=
  ⟨rfl, rfl, hlen, hlc, hcap, fun _ => ⟨b, off, rfl, hb, h⟩⟩
theorem RE.up {w : World} {B : Nat} : ∀ (d : Nat) (op n : Int) (A : Option Addr) (len cap : Nat) (t : T), RE w B d op n A len cap t → RE w B (d + 1) op n A len cap t
  | 0, _, _, _, _, _, _, h => absurd h id
  | d + 1, op, n, A, len, cap, t, ⟨h1, h2, h3, h4, h5, h6⟩ => ⟨h1, h2, h3, h4, h5, fun hl => by
      obtain ⟨b, off, e, hb, hc⟩ := h6 hl
      refine ⟨b, off, e, hb, fun k u hu => ?_⟩
      obtain ⟨op2, n2, A2, l2, c2, hce, hre⟩ := hc k u hu
      exact ⟨op2, n2, A2, l2, c2, hce, RE.up d op2 n2 A2 l2 c2 u hre⟩⟩
theorem RE.eq_mk {w : World} {B d : Nat} {op n : Int} {A : Option Addr} {len cap : Nat} {t : T} (h : RE w B d op n A len cap t) : t = .mk op n t.kids := by
  match d, h with
  | d + 1, ⟨h1, h2, _⟩ => cases t; simp only [T.op, T.n] at h1 h2; subst h1; subst h2; rfl
def exT : T := .mk 12 0 [.mk 1 1 [], .mk 3 2 []]
def exCells : Array Value := #[.int .i64 1, .int .i64 1, .slice none 0 0, .int .i64 3, .int .i64 2, .slice none 0 0]
end Go.Proofs.YtbppdalfcldodaaGreat.Ex
namespace Go.Proofs.YtbppdalfcldodaaGreat.Ex
open Go.RowKit

mutual
theorem sameT_refl : ∀ (t : T), sameT t t = true
  | .mk o n ks => by rw [sameT]; simp [T.op, T.n, T.kids, sameK_refl ks]
theorem sameK_refl : ∀ (ks : List T), sameK ks ks = true
  | [] => by rw [sameK]
  | a :: r => by rw [sameK, sameT_refl a, sameK_refl r]; rfl
end
mutual
theorem sameT_imp : ∀ (t u : T), sameT t u = true → t = u
  | .mk o n ks, .mk o2 n2 ks2, h => by
    rw [sameT] at h
    simp only [T.op, T.n, T.kids, Bool.and_eq_true, beq_iff_eq] at h
    obtain ⟨⟨rfl, rfl⟩, h3⟩ := h
    rw [sameK_imp ks ks2 h3]
theorem sameK_imp : ∀ (a b : List T), sameK a b = true → a = b
  | [], [], _ => rfl
  | [], _ :: _, h => by rw [sameK] at h; exact absurd h (by simp)
  | _ :: _, [], h => by rw [sameK] at h; exact absurd h (by simp)
  | a :: r, b :: s, h => by
    rw [sameK, Bool.and_eq_true] at h
    rw [sameT_imp a b h.1, sameK_imp r s h.2]
end
/- fits tells nothing of op and n -/
theorem sound_small {t : T} (h : sound t = true) : -1000 ≤ t.n ∧ t.n ≤ 1000 := by
  rw [sound_eq, nodeB_eq, Bool.and_eq_true, Bool.and_eq_true] at h
  have h2 := h.1.2
  unfold nodeN at h2
  split at h2
  · simpa using h2
  · split at h2
    · simp at h2; omega
    · split at h2
      · simp at h2; omega
      · simp at h2; omega
/- all nodes, however deep -/
mutual
def fz : T → Int
  | .mk _ _ ks => 1 + fzK ks
def fzK : List T → Int
  | [] => 0
  | k :: r => fz k + fzK r
end
mutual
theorem sz_full : ∀ (t : T) (dep : Int), dp t dep = false → sz t dep = fz t
  | .mk o n ks, dep, h => by
    rw [dp] at h
    rw [sz, fz]
    split
    · rename_i h12
      rw [if_pos h12] at h
      have : ks = [] := by simpa using h
      subst this; rw [fzK]; omega
    · rename_i h12
      rw [if_neg h12] at h
      rw [szK_full ks dep h]
theorem szK_full : ∀ (ks : List T) (dep : Int), dpK ks dep = false → szK ks dep = fzK ks
  | [], dep, _ => by rw [szK, fzK]
  | k :: r, dep, h => by
    rw [dpK, Bool.or_eq_false_iff] at h
    rw [szK, fzK, sz_full k (dep + 1) h.1, szK_full r dep h.2]
end
mutual
theorem dp_less : ∀ (t : T) (dep : Int), dep < 12 → dp t (dep + 1) = false → dp t dep = false
  | .mk o n ks, dep, hd, h => by
    rw [dp] at h ⊢
    rw [if_neg (by omega)]
    by_cases h12 : dep + 1 = 12
    · rw [if_pos h12] at h
      have : ks = [] := by simpa using h
      subst this; rw [dpK]
    · rw [if_neg h12] at h
      exact dpK_less ks dep (by omega) h
theorem dpK_less : ∀ (ks : List T) (dep : Int), dep < 11 → dpK ks (dep + 1) = false → dpK ks dep = false
  | [], dep, _, _ => by rw [dpK]
  | k :: r, dep, hd, h => by
    rw [dpK, Bool.or_eq_false_iff] at h ⊢
    exact ⟨dp_less k (dep + 1) (by omega) h.1, dpK_less r dep hd h.2⟩
end
/- a kid of what may be -/
end Go.Proofs.YtbppdalfcldodaaGreat.Ex
namespace Go.Proofs.YtbppdalfcldodaaGreat.Ex
open Go.RowKit
open Go.Sort (grow)

section
variable {W : World} {B d : Nat} {op n : Int} {A : Option Addr} {len cap : Nat} {t : T} {d2 : Nat} {op2 n2 : Int} {A2 : Option Addr} {len2 cap2 : Nat} {t2 : T} {dd : Nat} {os : Array Obj}
theorem q_re (hB : B ≤ W.heap.size) (Hre : Hid (RE W B d op n A len cap t)) : B ≤ (grow (redrawn W dd) os).heap.size ∧ RE (grow (redrawn W dd) os) B d op n A len cap t :=
  ⟨Nat.le_trans hB (below_regrown W dd os).size, Hre.out.below ((below_regrown W dd os).mono hB)⟩
theorem q_heavy (hB : B ≤ W.heap.size) (Hre : Hid (RE W B d op n A len cap t)) : Calls Tryz.prog 9 #[.agg #[.int .i64 op, .int .i64 n, .slice A len cap]] (grow (redrawn W dd) os) fun e w'' => e = .returned (.int .i64 (heavyE t)) ∧ ∃ p : Regrown, w'' = grow (redrawn W p.d) p.os :=
  Calls.regrown_of (heavy_any B d op n A len cap t _ (q_re hB Hre).1 (q_re hB Hre).2)
end
theorem heavy_bd (t : T) : 0 ≤ heavyE t ∧ heavyE t ≤ 1000 := by
  have := wgh_bd t 0 500 (by omega)
  unfold heavyE
  split <;> omega
end Go.Proofs.YtbppdalfcldodaaGreat.Ex
