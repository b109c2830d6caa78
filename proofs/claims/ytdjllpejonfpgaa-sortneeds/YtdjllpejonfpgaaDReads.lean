/- The walks of the program's mark and Reads. -/
import Derived.Test.YtdjllpejonfpgaaDSame
import Derived.Test.YtdjllpejonfpgaaEReadsB
namespace Go.Proofs.Ytdjllpejonfpgaa.Ex
open Go.RowKit
set_option linter.unusedSimpArgs false
set_option linter.unusedVariables false

set_option maxHeartbeats 1000000 in
theorem mark_any (B g : Nat) (opx : Int) (hox : opx = 3 ∨ opx = 4) : ∀ (d : Nat) (op n : Int) (A : Option Addr) (len cap : Nat) (t : T) (f : Nat → Bool) (w : World), B ≤ w.heap.size → B ≤ g → RE w B d op n A len cap t → sound t = true → w.rowIs g 50 6 (arrV f) →
    Calls Try.prog 32 #[.agg #[.int .i64 op, .int .i64 n, .slice A len cap], .int .i64 opx, .pointer (some ⟨g, 0, none⟩)] w fun e w' => e = .returned (.tuple #[]) ∧ w'.rowIs g 50 6 (arrV fun i => f i || rdT t opx i) ∧ Onl g w w' := by
  intro d
  induction d with
  | zero => intro op n A len cap t f w hB hg h; exact absurd h id
  | succ d ih =>
    intro op n A len cap t f w hB hg hre hsd hrow
    have IH := hide ih; clear ih
    have Hre := hide hre
    obtain ⟨hx1, hx2, hlen, hcap, hmx, hx6⟩ := hre
    unfold maxLen at hmx
    have Hlen := hide hlen
    have Hsd := hide hsd
    have Hrd : Hid (∀ i, rdT t opx i = (((op == opx) && (n == (i : Int))) || rdK t.kids opx i)) := hide (fun i => by rw [rdT_eq, hx1, hx2])
    have hgl := hrow.lt
    have Hrow := hide hrow
    have Hn : Hid (op = opx → 0 ≤ n ∧ n < 6) := hide (fun h => by have := sound_n hsd hox (by rw [hx1]; exact h); rw [hx2] at this; exact this)
    clear hlen hx1 hx2 hx6 hsd hrow
    have hob : Onl g w (w.alloc (.cells #[.int .i64 op, .int .i64 n, .slice A len cap] 25)) := (Onl.refl _ _).alloc _
    have Hbox := hide (box_new w op n A len cap 25)
    cases ho : op == opx
    · have ho' : ¬ op = opx := by simpa using ho
      have Hrow1 : Hid ((w.alloc (.cells #[.int .i64 op, .int .i64 n, .slice A len cap] 25)).rowIs g 50 6 (arrV fun i => f i || ((op == opx) && (n == (i : Int))))) := hide ((Hrow.out.alloc _).congr (fun i _ => by simp [arrV, ho]))
      clear ho'
      go_enter Try.func32, Try.ntmps32
      go_wp2_with fail
      generalize hW : w.alloc (.cells #[.int .i64 op, .int .i64 n, .slice A len cap] 25) = w2 at *
      clear hW
      go_loopw [20] (fun i wr => ∃ (k : Nat), k ≤ len ∧ i = .int .i64 k ∧ wr.rowIs g 50 6 (arrV fun i => (f i || ((op == opx) && (n == (i : Int)))) || rdK (t.kids.take k) opx i) ∧ Onl g w wr) (fun i _ => len - (intOf i).toNat)
      case atStart => exact ⟨0, Nat.zero_le _, rfl, Hrow1.out.congr (fun i _ => by simp [arrV, rdK]), hob⟩
      case round =>
        obtain ⟨k, hk, rfl, hrw, hb⟩ := hrel
        have hsz := hb.size
        by_cases hlt : k < len
        · have hlt' : ((k : Int) < (len : Int)) := by omega
          obtain ⟨b, off, u, op2, n2, A2, l2, c2, rfl, hbB, hku, ⟨c0, c1, cs⟩, hre2⟩ := (Hre.out.below (hb.below hg hB)).at_ hlt
          have Hsu := hide (soundK_at _ k u (sound_kids Hsd.out) hku)
          have Htk : Hid (∀ i, rdK (t.kids.take (k + 1)) opx i = (rdK (t.kids.take k) opx i || rdT u opx i)) := hide (fun i => by
            obtain ⟨hkl, e⟩ := List.getElem?_eq_some_iff.1 hku
            rw [List.take_succ_eq_append_getElem hkl, rdK_snoc, e])
          clear hku
          have Hre3 := hide (hre2.below ((Below.refl B wr).alloc (by omega) (.cells #[.int .i64 op2, .int .i64 n2, .slice A2 l2 c2] 25)))
          clear hre2
          have hbz : B ≤ (wr.alloc (.cells #[.int .i64 op2, .int .i64 n2, .slice A2 l2 c2] 25)).heap.size := by simp; omega
          have Hrw := hide (hrw.alloc (.cells #[.int .i64 op2, .int .i64 n2, .slice A2 l2 c2] 25))
          clear hrw
          go_wp2_with fail
          refine (IH.out op2 n2 A2 l2 c2 u _ _ hbz hg Hre3.out Hsu.out Hrw.out).mono ?_
          rintro e w3 ⟨rfl, hrow3, hon3⟩
          have Hrow3 := hide (hrow3.congr (g := arrV fun i => (f i || ((op == opx) && (n == (i : Int)))) || rdK (t.kids.take (k + 1)) opx i) (fun i _ => by simp only [arrV]; rw [Htk.out i, Bool.or_assoc]))
          have hbw3 := (hb.alloc _).trans hon3
          clear hrow3 hon3 c0 c1 cs Hre3 hbz Hrw Htk
          go_wp2_with fail
          go_roundw
          case rel => exact ⟨k + 1, by omega, by go_num, Hrow3.out, hbw3⟩
          case measure => simp [intOf]; omega
        · have hlt' : ¬ ((k : Int) < (len : Int)) := by omega
          have Hf := hide (hrw.congr (g := arrV fun i => f i || rdT t opx i) (fun i _ => by simp only [arrV]; rw [Hrd.out i, List.take_of_length_le (by rw [Hlen.out]; omega), Bool.or_assoc]))
          clear hrw
          go_wp2_with fail
          go_end0
          exact ⟨rfl, Hf.out, hb⟩
    · have ho' : op = opx := by simpa using ho
      obtain ⟨n0, n6⟩ := Hn.out ho'
      obtain ⟨q, rfl⟩ := Int.eq_ofNat_of_zero_le n0
      have hq : q < 6 := by omega
      have hq' : (q : Int) < 6 := by omega
      have hrow1 := Hrow.out.alloc (.cells #[.int .i64 op, .int .i64 (q : Int), .slice A len cap] 25)
      obtain ⟨u0, hu0⟩ : ∃ u, (w.alloc (.cells #[.int .i64 op, .int .i64 (q : Int), .slice A len cap] 25)).cell? ⟨g, q, none⟩ = some u := ⟨_, hrow1.cell hq⟩
      have hfz := hrow1.frozen q
      have Hrow1a := hide ((Hrow.out.set q (.bool true)).congr (g := arrV fun i => f i || ((op == opx) && ((q : Int) == (i : Int)))) (fun i hi => by
        simp only [arrV, ho, Bool.true_and]
        by_cases e : i = q
        · subst e; simp
        · rw [if_neg e]
          have : ((q : Int) == (i : Int)) = false := by rw [beq_eq_false_iff_ne]; omega
          rw [this, Bool.or_false]))
      clear ho' hrow1 n0 n6
      go_enter Try.func32, Try.ntmps32
      go_wp2_with fail
      go_region
      have Hrow1 := hide ((Hrow1a.out.alloc (.cells #[.int .i64 op, .int .i64 (q : Int), .slice A len cap] 25)).drew)
      clear hob hu0 hfz Hrow1a Hbox
      have hob : Onl g w ((w.setCell ⟨g, q, none⟩ (.bool true)).alloc (.cells #[.int .i64 op, .int .i64 (q : Int), .slice A len cap] 25)).drew := (((Onl.refl g w).set q _).alloc _).drew
      have hb2 : ((w.setCell ⟨g, q, none⟩ (.bool true)).alloc (.cells #[.int .i64 op, .int .i64 (q : Int), .slice A len cap] 25)).drew.cell? ⟨w.heap.size, 2, none⟩ = some (.slice A len cap) := by
        have := (box_new (w.setCell ⟨g, q, none⟩ (.bool true)) op (q : Int) A len cap 25).2.2
        simpa [World.setCell] using this
      go_wp2_with fail
      clear hb2
      generalize hW : ((w.setCell ⟨g, q, none⟩ (.bool true)).alloc (.cells #[.int .i64 op, .int .i64 (q : Int), .slice A len cap] 25)).drew = w2 at *
      clear hW
      go_loopw [20] (fun i wr => ∃ (k : Nat), k ≤ len ∧ i = .int .i64 k ∧ wr.rowIs g 50 6 (arrV fun i => (f i || ((op == opx) && ((q : Int) == (i : Int)))) || rdK (t.kids.take k) opx i) ∧ Onl g w wr) (fun i _ => len - (intOf i).toNat)
      case atStart => exact ⟨0, Nat.zero_le _, rfl, Hrow1.out.congr (fun i _ => by simp [arrV, rdK]), hob⟩
      case round =>
        obtain ⟨k, hk, rfl, hrw, hb⟩ := hrel
        have hsz := hb.size
        by_cases hlt : k < len
        · have hlt' : ((k : Int) < (len : Int)) := by omega
          obtain ⟨b, off, u, op2, n2, A2, l2, c2, rfl, hbB, hku, ⟨c0, c1, cs⟩, hre2⟩ := (Hre.out.below (hb.below hg hB)).at_ hlt
          have Hsu := hide (soundK_at _ k u (sound_kids Hsd.out) hku)
          have Htk : Hid (∀ i, rdK (t.kids.take (k + 1)) opx i = (rdK (t.kids.take k) opx i || rdT u opx i)) := hide (fun i => by
            obtain ⟨hkl, e⟩ := List.getElem?_eq_some_iff.1 hku
            rw [List.take_succ_eq_append_getElem hkl, rdK_snoc, e])
          clear hku
          have Hre3 := hide (hre2.below ((Below.refl B wr).alloc (by omega) (.cells #[.int .i64 op2, .int .i64 n2, .slice A2 l2 c2] 25)))
          clear hre2
          have hbz : B ≤ (wr.alloc (.cells #[.int .i64 op2, .int .i64 n2, .slice A2 l2 c2] 25)).heap.size := by simp; omega
          have Hrw := hide (hrw.alloc (.cells #[.int .i64 op2, .int .i64 n2, .slice A2 l2 c2] 25))
          clear hrw
          go_wp2_with fail
          refine (IH.out op2 n2 A2 l2 c2 u _ _ hbz hg Hre3.out Hsu.out Hrw.out).mono ?_
          rintro e w3 ⟨rfl, hrow3, hon3⟩
          have Hrow3 := hide (hrow3.congr (g := arrV fun i => (f i || ((op == opx) && ((q : Int) == (i : Int)))) || rdK (t.kids.take (k + 1)) opx i) (fun i _ => by simp only [arrV]; rw [Htk.out i, Bool.or_assoc]))
          have hbw3 := (hb.alloc _).trans hon3
          clear hrow3 hon3 c0 c1 cs Hre3 hbz Hrw Htk
          go_wp2_with fail
          go_roundw
          case rel => exact ⟨k + 1, by omega, by go_num, Hrow3.out, hbw3⟩
          case measure => simp [intOf]; omega
        · have hlt' : ¬ ((k : Int) < (len : Int)) := by omega
          have Hf := hide (hrw.congr (g := arrV fun i => f i || rdT t opx i) (fun i _ => by simp only [arrV]; rw [Hrd.out i, List.take_of_length_le (by rw [Hlen.out]; omega), Bool.or_assoc]))
          clear hrw
          go_wp2_with fail
          go_end0
          exact ⟨rfl, Hf.out, hb⟩
set_option maxRecDepth 100000 in
set_option maxHeartbeats 1000000 in
theorem reads_any (B d : Nat) (op n : Int) (A : Option Addr) (len cap : Nat) (t : T) (next : Bool) (w : World) (hB : B ≤ w.heap.size) (hre : RE w B d op n A len cap t) :
    Calls Try.prog 17 #[.agg #[.int .i64 op, .int .i64 n, .slice A len cap], .bool next] w (RefReads w (readsE t next)) := by
  have Hre := hide (hre.below ((Below.refl B w).alloc hB (.cells #[.int .i64 op, .int .i64 n, .slice A len cap] 25)))
  clear hre
  have hbz : B ≤ (w.alloc (.cells #[.int .i64 op, .int .i64 n, .slice A len cap] 25)).heap.size := by simp; omega
  have Hbox := hide (box_new w op n A len cap 25)
  obtain ⟨i0, hi0, hz0, hz1, hz2⟩ := info_parts info3
  have Hi0 := hide hi0; have Hz0 := hide hz0; have Hz1 := hide hz1; have Hz2 := hide hz2
  clear hi0 hz0 hz1 hz2
  go_enter Try.func17, Try.ntmps17
  go_wp2_with fail
  refine (may_any B d op n A len cap t _ hbz Hre.out).mono ?_
  rintro e w1 ⟨rfl, hb1⟩
  have hz1 := hb1.size
  have hbw1 := below_box (Below.refl w.heap.size w) (Nat.le_refl _) hb1
  obtain ⟨d0, d1, d2⟩ := Hbox.out.below hb1 (by simp)
  have hzw : w.heap.size < w1.heap.size := by simp at hz1; omega
  have Hre1 := hide (Hre.out.below (hb1.mono hbz))
  have hbz1 : B ≤ w1.heap.size := by omega
  clear hb1 hbz Hre Hbox
  by_cases hm : mayE t = 0
  · have hmb : (mayE t != 0) = false := by simp [hm]
    have Hsd := hide (may_sound hm)
    have Hres : Hid (readsE t next = pickTo (fun i => rdT t (opOf next) i) 6) := hide (by unfold readsE; rw [if_pos hm])
    clear hm
    have hrow0 : (w1.alloc (.cells #[.bool false, .bool false, .bool false, .bool false, .bool false, .bool false] 50)).rowIs w1.heap.size 50 6 (arrV fun _ => false) := World.rowIs_alloc w1 _ 50 _ (fun i hi => by
      have h : i = 0 ∨ i = 1 ∨ i = 2 ∨ i = 3 ∨ i = 4 ∨ i = 5 := by simp at hi; omega
      rcases h with rfl | rfl | rfl | rfl | rfl | rfl <;> rfl)
    have Hrow0 := hide hrow0
    clear hrow0
    have Hre2 := hide (Hre1.out.below ((Below.refl B w1).alloc hbz1 (.cells #[.bool false, .bool false, .bool false, .bool false, .bool false, .bool false] 50)))
    have hbz2 : B ≤ (w1.alloc (.cells #[.bool false, .bool false, .bool false, .bool false, .bool false, .bool false] 50)).heap.size := by simp; omega
    cases next
    · go_wp2_with fail
      refine (mark_any B w1.heap.size 3 (.inl rfl) d op n A len cap t (fun _ => false) _ hbz2 (by omega) Hre2.out Hsd.out Hrow0.out).mono ?_
      rintro e w2 ⟨rfl, hrow2, hon2⟩
      have hbw2 : Below w.heap.size w w2 := (hbw1.alloc (by omega) _).trans (hon2.below (by omega) (by simp; omega))
      have hz2 := hbw2.size
      have Hres2 : Hid (readsE t false = pickTo (fun i => rdT t 3 i) 6) := Hres
      have hrow3 : w2.rowIs w1.heap.size 50 6 (arrV fun i => rdT t 3 i) := hrow2.congr (fun i _ => by simp [arrV])
      clear hrow2
      generalize (fun i => rdT t 3 i) = F at *
      have a0 : w2.cell? ⟨w1.heap.size, 0, none⟩ = some (.bool (F 0)) := hrow3.cell (by omega)
      have a1 : w2.cell? ⟨w1.heap.size, 1, none⟩ = some (.bool (F 1)) := hrow3.cell (by omega)
      have a2 : w2.cell? ⟨w1.heap.size, 2, none⟩ = some (.bool (F 2)) := hrow3.cell (by omega)
      have a3 : w2.cell? ⟨w1.heap.size, 3, none⟩ = some (.bool (F 3)) := hrow3.cell (by omega)
      have a4 : w2.cell? ⟨w1.heap.size, 4, none⟩ = some (.bool (F 4)) := hrow3.cell (by omega)
      have a5 : w2.cell? ⟨w1.heap.size, 5, none⟩ = some (.bool (F 5)) := hrow3.cell (by omega)
      clear hrow3 hon2 d0 d1 d2 Hre1 Hre2 Hrow0 hbz2 Hres
      go_wp2_with fail
      clear a0 a1 a2 a3 a4 a5
      go_loopw [7, 18] (fun o i wr => ∃ (k m cc : Nat) (O : Option Addr), k ≤ 6 ∧ i = .int .i64 k ∧ o = .slice O m cc ∧ m ≤ k ∧ Hid ((pickTo F k).length = m) ∧ wr.ownsRow w.heap.size 3 1 (.slice O m cc) m (ints (pickTo F k)) ∧ Below w.heap.size w wr) (fun _ i _ => 6 - (intOf i).toNat)
      case atStart => exact ⟨0, 0, 0, none, by omega, rfl, rfl, by omega, hide rfl, ⟨rfl, .inl ⟨rfl, rfl⟩⟩, hbw2⟩
      case round =>
        obtain ⟨k, m, cc, O, hk, rfl, rfl, hmk, HL, hown, hb⟩ := hrel
        have hsz := hb.size
        by_cases hlt : k < 6
        · have hlt' : (k : Int) < 6 := by omega
          have hix := arr_idx F k hlt
          have Hps := hide (pickTo_succ F k)
          cases hF : F k
          · have Hp2 : Hid (pickTo F (k + 1) = pickTo F k) := hide (by rw [Hps.out, hF]; rfl)
            have Hown := hide hown
            clear hown
            go_wp2_with fail
            go_roundw
            case rel => exact ⟨k + 1, m, cc, O, by omega, by go_num, rfl, by omega, by rw [Hp2.out]; exact HL, by rw [Hp2.out]; exact Hown.out, hb⟩
            case measure => simp [intOf]; omega
          · have Hp2 : Hid (pickTo F (k + 1) = pickTo F k ++ [(k : Int)]) := hide (by rw [Hps.out, hF]; rfl)
            have Hown := hide hown
            clear hown
            go_wp2_with (at_builtin; refine wpList_append_lies _ rfl _ _ _ rfl w.heap.size 3 i0 _ 1 8 Try.underlying36 Hi0.out Hz0.out Hz1.out Hz2.out rfl (by omega) (.slice O m cc) m (ints (pickTo F k)) rfl (Hown.out.alloc _) ⟨wr.heap.size, 0, none⟩ 1 1 [.int .i64 (k : Int)] rfl rfl (World.news_of_block (cs := #[.int .i64 (k : Int)]) (t := 3) (fr := (0, 0)) (heap_alloc_new wr _)) (by simp [Value.oneCell']) (by omega) (by unfold maxLen; omega) (by omega) (by simp; omega) _ rfl ?_; intro gg cap w5 hown5 hgrow hat hlt5)
            have hbw5 : Below w.heap.size w w5 := (hb.alloc hsz _).grown hgrow (by simp; omega) (fun q hq => (Hown.out.lt q hq).1)
            have Hown5 : Hid (w5.ownsRow w.heap.size 3 1 (.slice (some ⟨gg, 0, none⟩) (m + 1) cap) (m + 1) (ints (pickTo F (k + 1)))) := hide (by rw [Hp2.out, ints, List.map_append]; exact hown5)
            have HL2 : Hid ((pickTo F (k + 1)).length = m + 1) := hide (by rw [Hp2.out, List.length_append, HL.out]; rfl)
            clear hown5 hgrow hat hlt5
            go_wp2_with fail
            go_roundw
            case rel => exact ⟨k + 1, m + 1, cap, some ⟨gg, 0, none⟩, by omega, by go_num, rfl, by omega, HL2, Hown5.out, hbw5⟩
            case measure => simp [intOf]; omega
        · have hlt' : ¬ (k : Int) < 6 := by omega
          obtain rfl : k = 6 := by omega
          have Hown := hide hown
          clear hown
          go_wp2_with fail
          go_ret
          exact ⟨O, m, cc, rfl, by rw [Hres2.out]; exact Hown.out, by rw [Hres2.out]; exact HL.out, hb⟩
    · go_wp2_with fail
      refine (mark_any B w1.heap.size 4 (.inr rfl) d op n A len cap t (fun _ => false) _ hbz2 (by omega) Hre2.out Hsd.out Hrow0.out).mono ?_
      rintro e w2 ⟨rfl, hrow2, hon2⟩
      have hbw2 : Below w.heap.size w w2 := (hbw1.alloc (by omega) _).trans (hon2.below (by omega) (by simp; omega))
      have hz2 := hbw2.size
      have Hres2 : Hid (readsE t true = pickTo (fun i => rdT t 4 i) 6) := Hres
      have hrow3 : w2.rowIs w1.heap.size 50 6 (arrV fun i => rdT t 4 i) := hrow2.congr (fun i _ => by simp [arrV])
      clear hrow2
      generalize (fun i => rdT t 4 i) = F at *
      have a0 : w2.cell? ⟨w1.heap.size, 0, none⟩ = some (.bool (F 0)) := hrow3.cell (by omega)
      have a1 : w2.cell? ⟨w1.heap.size, 1, none⟩ = some (.bool (F 1)) := hrow3.cell (by omega)
      have a2 : w2.cell? ⟨w1.heap.size, 2, none⟩ = some (.bool (F 2)) := hrow3.cell (by omega)
      have a3 : w2.cell? ⟨w1.heap.size, 3, none⟩ = some (.bool (F 3)) := hrow3.cell (by omega)
      have a4 : w2.cell? ⟨w1.heap.size, 4, none⟩ = some (.bool (F 4)) := hrow3.cell (by omega)
      have a5 : w2.cell? ⟨w1.heap.size, 5, none⟩ = some (.bool (F 5)) := hrow3.cell (by omega)
      clear hrow3 hon2 d0 d1 d2 Hre1 Hre2 Hrow0 hbz2 Hres
      go_wp2_with fail
      clear a0 a1 a2 a3 a4 a5
      go_loopw [7, 18] (fun o i wr => ∃ (k m cc : Nat) (O : Option Addr), k ≤ 6 ∧ i = .int .i64 k ∧ o = .slice O m cc ∧ m ≤ k ∧ Hid ((pickTo F k).length = m) ∧ wr.ownsRow w.heap.size 3 1 (.slice O m cc) m (ints (pickTo F k)) ∧ Below w.heap.size w wr) (fun _ i _ => 6 - (intOf i).toNat)
      case atStart => exact ⟨0, 0, 0, none, by omega, rfl, rfl, by omega, hide rfl, ⟨rfl, .inl ⟨rfl, rfl⟩⟩, hbw2⟩
      case round =>
        obtain ⟨k, m, cc, O, hk, rfl, rfl, hmk, HL, hown, hb⟩ := hrel
        have hsz := hb.size
        by_cases hlt : k < 6
        · have hlt' : (k : Int) < 6 := by omega
          have hix := arr_idx F k hlt
          have Hps := hide (pickTo_succ F k)
          cases hF : F k
          · have Hp2 : Hid (pickTo F (k + 1) = pickTo F k) := hide (by rw [Hps.out, hF]; rfl)
            have Hown := hide hown
            clear hown
            go_wp2_with fail
            go_roundw
            case rel => exact ⟨k + 1, m, cc, O, by omega, by go_num, rfl, by omega, by rw [Hp2.out]; exact HL, by rw [Hp2.out]; exact Hown.out, hb⟩
            case measure => simp [intOf]; omega
          · have Hp2 : Hid (pickTo F (k + 1) = pickTo F k ++ [(k : Int)]) := hide (by rw [Hps.out, hF]; rfl)
            have Hown := hide hown
            clear hown
            go_wp2_with (at_builtin; refine wpList_append_lies _ rfl _ _ _ rfl w.heap.size 3 i0 _ 1 8 Try.underlying36 Hi0.out Hz0.out Hz1.out Hz2.out rfl (by omega) (.slice O m cc) m (ints (pickTo F k)) rfl (Hown.out.alloc _) ⟨wr.heap.size, 0, none⟩ 1 1 [.int .i64 (k : Int)] rfl rfl (World.news_of_block (cs := #[.int .i64 (k : Int)]) (t := 3) (fr := (0, 0)) (heap_alloc_new wr _)) (by simp [Value.oneCell']) (by omega) (by unfold maxLen; omega) (by omega) (by simp; omega) _ rfl ?_; intro gg cap w5 hown5 hgrow hat hlt5)
            have hbw5 : Below w.heap.size w w5 := (hb.alloc hsz _).grown hgrow (by simp; omega) (fun q hq => (Hown.out.lt q hq).1)
            have Hown5 : Hid (w5.ownsRow w.heap.size 3 1 (.slice (some ⟨gg, 0, none⟩) (m + 1) cap) (m + 1) (ints (pickTo F (k + 1)))) := hide (by rw [Hp2.out, ints, List.map_append]; exact hown5)
            have HL2 : Hid ((pickTo F (k + 1)).length = m + 1) := hide (by rw [Hp2.out, List.length_append, HL.out]; rfl)
            clear hown5 hgrow hat hlt5
            go_wp2_with fail
            go_roundw
            case rel => exact ⟨k + 1, m + 1, cap, some ⟨gg, 0, none⟩, by omega, by go_num, rfl, by omega, HL2, Hown5.out, hbw5⟩
            case measure => simp [intOf]; omega
        · have hlt' : ¬ (k : Int) < 6 := by omega
          obtain rfl : k = 6 := by omega
          have Hown := hide hown
          clear hown
          go_wp2_with fail
          go_ret
          exact ⟨O, m, cc, rfl, by rw [Hres2.out]; exact Hown.out, by rw [Hres2.out]; exact HL.out, hb⟩
  · have hmb : (mayE t != 0) = true := by simp [hm]
    have Hres : Hid (readsE t next = []) := hide (by unfold readsE; rw [if_neg hm])
    clear hm
    go_wp2_with fail
    go_ret
    exact ⟨none, 0, 0, rfl, by rw [Hres.out]; exact ⟨rfl, .inl ⟨rfl, rfl⟩⟩, by rw [Hres.out]; rfl, hbw1⟩
end Go.Proofs.Ytdjllpejonfpgaa.Ex
