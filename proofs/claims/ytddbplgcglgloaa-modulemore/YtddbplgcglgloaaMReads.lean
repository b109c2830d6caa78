/- The walk of the reference's Reads. The walks of the program's mark and Reads. How a slice of integers lies in memory; the walk of SameInts. The walk of the statements' own awake; how new expressions lie. -/
import Derived.Test.YtddbplgcglgloaaEReads
import Derived.Deep.AppendLies
import Derived.OwnWalk
import Derived.Test.YtddbplgcglgloaaMEx
namespace Go.Proofs.Ytddbplgcglgloaa.Ex
open Go.RowKit
set_option linter.unusedSimpArgs false
set_option linter.unusedVariables false

def ints (xs : List Int) : List Value := xs.map (Value.int .i64)
def pickTo (F : Nat → Bool) (k : Nat) : List Int := ((List.range k).filter F).map (fun i : Nat => (i : Int))
theorem pickTo_succ (F : Nat → Bool) (k : Nat) : pickTo F (k + 1) = if F k = true then pickTo F k ++ [(k : Int)] else pickTo F k := by
  unfold pickTo
  rw [List.range_succ, List.filter_append]
  by_cases h : F k = true
  · simp [h]
  · simp [h]
theorem pickTo_len (F : Nat → Bool) (k : Nat) : (pickTo F k).length ≤ k := by
  unfold pickTo
  have := List.length_filter_le F (List.range k)
  simpa using this
def opOf (next : Bool) : Int := if next = true then 4 else 3
def readsE (t : T) (next : Bool) : List Int := if mayE t = 0 then pickTo (fun i => rdT t (opOf next) i) 6 else []
theorem may_sound {t : T} (h : mayE t = 0) : sound t = true := by
  unfold mayE at h
  split at h
  · omega
  · split at h
    · omega
    · rename_i h2; cases hs : sound t
      · exact absurd hs h2
      · rfl
def RefReads (w : World) (xs : List Int) (e : Ending) (w' : World) : Prop :=
  ∃ A n c, e = .returned (.slice A n c) ∧ w'.ownsRow w.heap.size 3 1 (.slice A n c) n (ints xs) ∧ xs.length = n ∧ Below w.heap.size w w'
theorem info3 : (Try.prog.info? 3).map (fun i => (i.zero, i.size, i.bytes)) = some (some (.int .i64 0), 1, 8) := by kernel_rfl
theorem arr_idx (F : Nat → Bool) (k : Nat) (hk : k < 6) (w : World) : (Instr.index 86 (.agg #[.bool (F 0), .bool (F 1), .bool (F 2), .bool (F 3), .bool (F 4), .bool (F 5)]) (.int .i64 (k : Int))).run Try.prog w = .ok (.bool (F k)) w := by
  have h : k = 0 ∨ k = 1 ∨ k = 2 ∨ k = 3 ∨ k = 4 ∨ k = 5 := by omega
  rcases h with rfl | rfl | rfl | rfl | rfl | rfl
  all_goals exact (show Sem.run Try.prog _ w = _ by kernel_rfl)

set_option maxRecDepth 100000 in
set_option maxHeartbeats 1000000 in
theorem rReads_any (B d : Nat) (op n : Int) (A : Option Addr) (len cap : Nat) (t : T) (next : Bool) (w : World) (hB : B ≤ w.heap.size) (hre : RE w B d op n A len cap t) :
    Calls Try.prog 33 #[.agg #[.int .i64 op, .int .i64 n, .slice A len cap], .bool next] w (RefReads w (readsE t next)) := by
  have Hre := hide (hre.below ((Below.refl B w).alloc hB (.cells #[.int .i64 op, .int .i64 n, .slice A len cap] 25)))
  clear hre
  have hbz : B ≤ (w.alloc (.cells #[.int .i64 op, .int .i64 n, .slice A len cap] 25)).heap.size := by simp; omega
  have Hbox := hide (box_new w op n A len cap 25)
  obtain ⟨i0, hi0, hz0, hz1, hz2⟩ := info_parts info3
  have Hi0 := hide hi0; have Hz0 := hide hz0; have Hz1 := hide hz1; have Hz2 := hide hz2
  clear hi0 hz0 hz1 hz2
  go_enter Try.func33, Try.ntmps33
  go_wp2_with fail
  refine (rmay_any B d op n A len cap t _ hbz Hre.out).mono ?_
  rintro e w1 ⟨rfl, hb1⟩
  have hz1 := hb1.size
  have hbw1 := below_box (Below.refl w.heap.size w) (Nat.le_refl _) hb1
  obtain ⟨d0, d1, d2⟩ := Hbox.out.below hb1 (by simp)
  have hzw : w.heap.size < w1.heap.size := by simp at hz1; omega
  have Hre1 := hide (Hre.out.below (hb1.mono hbz))
  have hbz1 : B ≤ w1.heap.size := by omega
  clear hb1 hbz Hre Hbox
  by_cases hm : mayE t = 0
  · have hmb : (mayE t != 0) = false := by simp [hm]
    have Hsd := hide (may_sound hm)
    have Hres : Hid (readsE t next = pickTo (fun i => rdT t (opOf next) i) 6) := hide (by unfold readsE; rw [if_pos hm])
    clear hm
    have hrow0 : (w1.alloc (.cells #[.bool false, .bool false, .bool false, .bool false, .bool false, .bool false] 86)).rowIs w1.heap.size 86 6 (arrV fun _ => false) := World.rowIs_alloc w1 _ 86 _ (fun i hi => by
      have h : i = 0 ∨ i = 1 ∨ i = 2 ∨ i = 3 ∨ i = 4 ∨ i = 5 := by simp at hi; omega
      rcases h with rfl | rfl | rfl | rfl | rfl | rfl <;> rfl)
    have Hrow0 := hide hrow0
    clear hrow0
    have Hre2 := hide (Hre1.out.below ((Below.refl B w1).alloc hbz1 (.cells #[.bool false, .bool false, .bool false, .bool false, .bool false, .bool false] 86)))
    have hbz2 : B ≤ (w1.alloc (.cells #[.bool false, .bool false, .bool false, .bool false, .bool false, .bool false] 86)).heap.size := by simp; omega
    cases next
    · go_wp2_with fail
      refine (rreads_any B w1.heap.size 3 (.inl rfl) d op n A len cap t (fun _ => false) _ hbz2 (by omega) Hre2.out Hsd.out Hrow0.out).mono ?_
      rintro e w2 ⟨rfl, hrow2, hon2⟩
      have hbw2 : Below w.heap.size w w2 := (hbw1.alloc (by omega) _).trans (hon2.below (by omega) (by simp; omega))
      have hz2 := hbw2.size
      have Hres2 : Hid (readsE t false = pickTo (fun i => rdT t 3 i) 6) := Hres
      have hrow3 : w2.rowIs w1.heap.size 86 6 (arrV fun i => rdT t 3 i) := hrow2.congr (fun i _ => by simp [arrV])
      clear hrow2
      generalize (fun i => rdT t 3 i) = F at *
      have a0 : w2.cell? ⟨w1.heap.size, 0, none⟩ = some (.bool (F 0)) := hrow3.cell (by omega)
      have a1 : w2.cell? ⟨w1.heap.size, 1, none⟩ = some (.bool (F 1)) := hrow3.cell (by omega)
      have a2 : w2.cell? ⟨w1.heap.size, 2, none⟩ = some (.bool (F 2)) := hrow3.cell (by omega)
      have a3 : w2.cell? ⟨w1.heap.size, 3, none⟩ = some (.bool (F 3)) := hrow3.cell (by omega)
      have a4 : w2.cell? ⟨w1.heap.size, 4, none⟩ = some (.bool (F 4)) := hrow3.cell (by omega)
      have a5 : w2.cell? ⟨w1.heap.size, 5, none⟩ = some (.bool (F 5)) := hrow3.cell (by omega)
      clear hrow3 hon2 d0 d1 d2 Hre1 Hre2 Hrow0 hbz2 Hres
      go_wp2_with fail
      clear a0 a1 a2 a3 a4 a5
      go_loopw [7, 18] (fun o i wr => ∃ (k m cc : Nat) (O : Option Addr), k ≤ 6 ∧ i = .int .i64 k ∧ o = .slice O m cc ∧ m ≤ k ∧ Hid ((pickTo F k).length = m) ∧ wr.ownsRow w.heap.size 3 1 (.slice O m cc) m (ints (pickTo F k)) ∧ Below w.heap.size w wr) (fun _ i _ => 6 - (intOf i).toNat)
      case atStart => exact ⟨0, 0, 0, none, by omega, rfl, rfl, by omega, hide rfl, ⟨rfl, .inl ⟨rfl, rfl⟩⟩, hbw2⟩
      case round =>
        obtain ⟨k, m, cc, O, hk, rfl, rfl, hmk, HL, hown, hb⟩ := hrel
        have hsz := hb.size
        by_cases hlt : k < 6
        · have hlt' : (k : Int) < 6 := by omega
          have hix := arr_idx F k hlt
          have Hps := hide (pickTo_succ F k)
          cases hF : F k
          · have Hp2 : Hid (pickTo F (k + 1) = pickTo F k) := hide (by rw [Hps.out, hF]; rfl)
            have Hown := hide hown
            clear hown
            go_wp2_with fail
            go_roundw
            case rel => exact ⟨k + 1, m, cc, O, by omega, by go_num, rfl, by omega, by rw [Hp2.out]; exact HL, by rw [Hp2.out]; exact Hown.out, hb⟩
            case measure => simp [intOf]; omega
          · have Hp2 : Hid (pickTo F (k + 1) = pickTo F k ++ [(k : Int)]) := hide (by rw [Hps.out, hF]; rfl)
            have Hown := hide hown
            clear hown
            go_wp2_with (at_builtin; refine wpList_append_lies _ rfl _ _ _ rfl w.heap.size 3 i0 _ 1 8 Try.underlying68 Hi0.out Hz0.out Hz1.out Hz2.out rfl (by omega) (.slice O m cc) m (ints (pickTo F k)) rfl (Hown.out.alloc _) ⟨wr.heap.size, 0, none⟩ 1 1 [.int .i64 (k : Int)] rfl rfl (World.news_of_block (cs := #[.int .i64 (k : Int)]) (t := 3) (fr := (0, 0)) (heap_alloc_new wr _)) (by simp [Value.oneCell']) (by omega) (by unfold maxLen; omega) (by omega) (by simp; omega) _ rfl ?_; intro gg cap w5 hown5 hgrow hat hlt5)
            have hbw5 : Below w.heap.size w w5 := (hb.alloc hsz _).grown hgrow (by simp; omega) (fun q hq => (Hown.out.lt q hq).1)
            have Hown5 : Hid (w5.ownsRow w.heap.size 3 1 (.slice (some ⟨gg, 0, none⟩) (m + 1) cap) (m + 1) (ints (pickTo F (k + 1)))) := hide (by rw [Hp2.out, ints, List.map_append]; exact hown5)
            have HL2 : Hid ((pickTo F (k + 1)).length = m + 1) := hide (by rw [Hp2.out, List.length_append, HL.out]; rfl)
            clear hown5 hgrow hat hlt5
            go_wp2_with fail
            go_roundw
            case rel => exact ⟨k + 1, m + 1, cap, some ⟨gg, 0, none⟩, by omega, by go_num, rfl, by omega, HL2, Hown5.out, hbw5⟩
            case measure => simp [intOf]; omega
        · have hlt' : ¬ (k : Int) < 6 := by omega
          obtain rfl : k = 6 := by omega
          have Hown := hide hown
          clear hown
          go_wp2_with fail
          go_ret
          exact ⟨O, m, cc, rfl, by rw [Hres2.out]; exact Hown.out, by rw [Hres2.out]; exact HL.out, hb⟩
    · go_wp2_with fail
      refine (rreads_any B w1.heap.size 4 (.inr rfl) d op n A len cap t (fun _ => false) _ hbz2 (by omega) Hre2.out Hsd.out Hrow0.out).mono ?_
      rintro e w2 ⟨rfl, hrow2, hon2⟩
      have hbw2 : Below w.heap.size w w2 := (hbw1.alloc (by omega) _).trans (hon2.below (by omega) (by simp; omega))
      have hz2 := hbw2.size
      have Hres2 : Hid (readsE t true = pickTo (fun i => rdT t 4 i) 6) := Hres
      have hrow3 : w2.rowIs w1.heap.size 86 6 (arrV fun i => rdT t 4 i) := hrow2.congr (fun i _ => by simp [arrV])
      clear hrow2
      generalize (fun i => rdT t 4 i) = F at *
      have a0 : w2.cell? ⟨w1.heap.size, 0, none⟩ = some (.bool (F 0)) := hrow3.cell (by omega)
      have a1 : w2.cell? ⟨w1.heap.size, 1, none⟩ = some (.bool (F 1)) := hrow3.cell (by omega)
      have a2 : w2.cell? ⟨w1.heap.size, 2, none⟩ = some (.bool (F 2)) := hrow3.cell (by omega)
      have a3 : w2.cell? ⟨w1.heap.size, 3, none⟩ = some (.bool (F 3)) := hrow3.cell (by omega)
      have a4 : w2.cell? ⟨w1.heap.size, 4, none⟩ = some (.bool (F 4)) := hrow3.cell (by omega)
      have a5 : w2.cell? ⟨w1.heap.size, 5, none⟩ = some (.bool (F 5)) := hrow3.cell (by omega)
      clear hrow3 hon2 d0 d1 d2 Hre1 Hre2 Hrow0 hbz2 Hres
      go_wp2_with fail
      clear a0 a1 a2 a3 a4 a5
      go_loopw [7, 18] (fun o i wr => ∃ (k m cc : Nat) (O : Option Addr), k ≤ 6 ∧ i = .int .i64 k ∧ o = .slice O m cc ∧ m ≤ k ∧ Hid ((pickTo F k).length = m) ∧ wr.ownsRow w.heap.size 3 1 (.slice O m cc) m (ints (pickTo F k)) ∧ Below w.heap.size w wr) (fun _ i _ => 6 - (intOf i).toNat)
      case atStart => exact ⟨0, 0, 0, none, by omega, rfl, rfl, by omega, hide rfl, ⟨rfl, .inl ⟨rfl, rfl⟩⟩, hbw2⟩
      case round =>
        obtain ⟨k, m, cc, O, hk, rfl, rfl, hmk, HL, hown, hb⟩ := hrel
        have hsz := hb.size
        by_cases hlt : k < 6
        · have hlt' : (k : Int) < 6 := by omega
          have hix := arr_idx F k hlt
          have Hps := hide (pickTo_succ F k)
          cases hF : F k
          · have Hp2 : Hid (pickTo F (k + 1) = pickTo F k) := hide (by rw [Hps.out, hF]; rfl)
            have Hown := hide hown
            clear hown
            go_wp2_with fail
            go_roundw
            case rel => exact ⟨k + 1, m, cc, O, by omega, by go_num, rfl, by omega, by rw [Hp2.out]; exact HL, by rw [Hp2.out]; exact Hown.out, hb⟩
            case measure => simp [intOf]; omega
          · have Hp2 : Hid (pickTo F (k + 1) = pickTo F k ++ [(k : Int)]) := hide (by rw [Hps.out, hF]; rfl)
            have Hown := hide hown
            clear hown
            go_wp2_with (at_builtin; refine wpList_append_lies _ rfl _ _ _ rfl w.heap.size 3 i0 _ 1 8 Try.underlying68 Hi0.out Hz0.out Hz1.out Hz2.out rfl (by omega) (.slice O m cc) m (ints (pickTo F k)) rfl (Hown.out.alloc _) ⟨wr.heap.size, 0, none⟩ 1 1 [.int .i64 (k : Int)] rfl rfl (World.news_of_block (cs := #[.int .i64 (k : Int)]) (t := 3) (fr := (0, 0)) (heap_alloc_new wr _)) (by simp [Value.oneCell']) (by omega) (by unfold maxLen; omega) (by omega) (by simp; omega) _ rfl ?_; intro gg cap w5 hown5 hgrow hat hlt5)
            have hbw5 : Below w.heap.size w w5 := (hb.alloc hsz _).grown hgrow (by simp; omega) (fun q hq => (Hown.out.lt q hq).1)
            have Hown5 : Hid (w5.ownsRow w.heap.size 3 1 (.slice (some ⟨gg, 0, none⟩) (m + 1) cap) (m + 1) (ints (pickTo F (k + 1)))) := hide (by rw [Hp2.out, ints, List.map_append]; exact hown5)
            have HL2 : Hid ((pickTo F (k + 1)).length = m + 1) := hide (by rw [Hp2.out, List.length_append, HL.out]; rfl)
            clear hown5 hgrow hat hlt5
            go_wp2_with fail
            go_roundw
            case rel => exact ⟨k + 1, m + 1, cap, some ⟨gg, 0, none⟩, by omega, by go_num, rfl, by omega, HL2, Hown5.out, hbw5⟩
            case measure => simp [intOf]; omega
        · have hlt' : ¬ (k : Int) < 6 := by omega
          obtain rfl : k = 6 := by omega
          have Hown := hide hown
          clear hown
          go_wp2_with fail
          go_ret
          exact ⟨O, m, cc, rfl, by rw [Hres2.out]; exact Hown.out, by rw [Hres2.out]; exact HL.out, hb⟩
  · have hmb : (mayE t != 0) = true := by simp [hm]
    have Hres : Hid (readsE t next = []) := hide (by unfold readsE; rw [if_neg hm])
    clear hm
    go_wp2_with fail
    go_ret
    exact ⟨none, 0, 0, rfl, by rw [Hres.out]; exact ⟨rfl, .inl ⟨rfl, rfl⟩⟩, by rw [Hres.out]; rfl, hbw1⟩
end Go.Proofs.Ytddbplgcglgloaa.Ex
namespace Go.Proofs.Ytddbplgcglgloaa.Ex
open Go.RowKit
set_option linter.unusedSimpArgs false
set_option linter.unusedVariables false

set_option maxHeartbeats 1000000 in
theorem mark_any (B g : Nat) (opx : Int) (hox : opx = 3 ∨ opx = 4) : ∀ (d : Nat) (op n : Int) (A : Option Addr) (len cap : Nat) (t : T) (f : Nat → Bool) (w : World), B ≤ w.heap.size → B ≤ g → RE w B d op n A len cap t → sound t = true → w.rowIs g 86 6 (arrV f) →
    Calls Try.prog 68 #[.agg #[.int .i64 op, .int .i64 n, .slice A len cap], .int .i64 opx, .pointer (some ⟨g, 0, none⟩)] w fun e w' => e = .returned (.tuple #[]) ∧ w'.rowIs g 86 6 (arrV fun i => f i || rdT t opx i) ∧ Onl g w w' := by
  intro d
  induction d with
  | zero => intro op n A len cap t f w hB hg h; exact absurd h id
  | succ d ih =>
    intro op n A len cap t f w hB hg hre hsd hrow
    have IH := hide ih; clear ih
    have Hre := hide hre
    obtain ⟨hx1, hx2, hlen, hcap, hmx, hx6⟩ := hre
    unfold maxLen at hmx
    have Hlen := hide hlen
    have Hsd := hide hsd
    have Hrd : Hid (∀ i, rdT t opx i = (((op == opx) && (n == (i : Int))) || rdK t.kids opx i)) := hide (fun i => by rw [rdT_eq, hx1, hx2])
    have hgl := hrow.lt
    have Hrow := hide hrow
    have Hn : Hid (op = opx → 0 ≤ n ∧ n < 6) := hide (fun h => by have := sound_n hsd hox (by rw [hx1]; exact h); rw [hx2] at this; exact this)
    clear hlen hx1 hx2 hx6 hsd hrow
    have hob : Onl g w (w.alloc (.cells #[.int .i64 op, .int .i64 n, .slice A len cap] 25)) := (Onl.refl _ _).alloc _
    have Hbox := hide (box_new w op n A len cap 25)
    cases ho : op == opx
    · have ho' : ¬ op = opx := by simpa using ho
      have Hrow1 : Hid ((w.alloc (.cells #[.int .i64 op, .int .i64 n, .slice A len cap] 25)).rowIs g 86 6 (arrV fun i => f i || ((op == opx) && (n == (i : Int))))) := hide ((Hrow.out.alloc _).congr (fun i _ => by simp [arrV, ho]))
      clear ho'
      go_enter Try.func68, Try.ntmps68
      go_wp2_with fail
      generalize hW : w.alloc (.cells #[.int .i64 op, .int .i64 n, .slice A len cap] 25) = w2 at *
      clear hW
      go_loopw [20] (fun i wr => ∃ (k : Nat), k ≤ len ∧ i = .int .i64 k ∧ wr.rowIs g 86 6 (arrV fun i => (f i || ((op == opx) && (n == (i : Int)))) || rdK (t.kids.take k) opx i) ∧ Onl g w wr) (fun i _ => len - (intOf i).toNat)
      case atStart => exact ⟨0, Nat.zero_le _, rfl, Hrow1.out.congr (fun i _ => by simp [arrV, rdK]), hob⟩
      case round =>
        obtain ⟨k, hk, rfl, hrw, hb⟩ := hrel
        have hsz := hb.size
        by_cases hlt : k < len
        · have hlt' : ((k : Int) < (len : Int)) := by omega
          obtain ⟨b, off, u, op2, n2, A2, l2, c2, rfl, hbB, hku, ⟨c0, c1, cs⟩, hre2⟩ := (Hre.out.below (hb.below hg hB)).at_ hlt
          have Hsu := hide (soundK_at _ k u (sound_kids Hsd.out) hku)
          have Htk : Hid (∀ i, rdK (t.kids.take (k + 1)) opx i = (rdK (t.kids.take k) opx i || rdT u opx i)) := hide (fun i => by
            obtain ⟨hkl, e⟩ := List.getElem?_eq_some_iff.1 hku
            rw [List.take_succ_eq_append_getElem hkl, rdK_snoc, e])
          clear hku
          have Hre3 := hide (hre2.below ((Below.refl B wr).alloc (by omega) (.cells #[.int .i64 op2, .int .i64 n2, .slice A2 l2 c2] 25)))
          clear hre2
          have hbz : B ≤ (wr.alloc (.cells #[.int .i64 op2, .int .i64 n2, .slice A2 l2 c2] 25)).heap.size := by simp; omega
          have Hrw := hide (hrw.alloc (.cells #[.int .i64 op2, .int .i64 n2, .slice A2 l2 c2] 25))
          clear hrw
          go_wp2_with fail
          refine (IH.out op2 n2 A2 l2 c2 u _ _ hbz hg Hre3.out Hsu.out Hrw.out).mono ?_
          rintro e w3 ⟨rfl, hrow3, hon3⟩
          have Hrow3 := hide (hrow3.congr (g := arrV fun i => (f i || ((op == opx) && (n == (i : Int)))) || rdK (t.kids.take (k + 1)) opx i) (fun i _ => by simp only [arrV]; rw [Htk.out i, Bool.or_assoc]))
          have hbw3 := (hb.alloc _).trans hon3
          clear hrow3 hon3 c0 c1 cs Hre3 hbz Hrw Htk
          go_wp2_with fail
          go_roundw
          case rel => exact ⟨k + 1, by omega, by go_num, Hrow3.out, hbw3⟩
          case measure => simp [intOf]; omega
        · have hlt' : ¬ ((k : Int) < (len : Int)) := by omega
          have Hf := hide (hrw.congr (g := arrV fun i => f i || rdT t opx i) (fun i _ => by simp only [arrV]; rw [Hrd.out i, List.take_of_length_le (by rw [Hlen.out]; omega), Bool.or_assoc]))
          clear hrw
          go_wp2_with fail
          go_end0
          exact ⟨rfl, Hf.out, hb⟩
    · have ho' : op = opx := by simpa using ho
      obtain ⟨n0, n6⟩ := Hn.out ho'
      obtain ⟨q, rfl⟩ := Int.eq_ofNat_of_zero_le n0
      have hq : q < 6 := by omega
      have hq' : (q : Int) < 6 := by omega
      have hrow1 := Hrow.out.alloc (.cells #[.int .i64 op, .int .i64 (q : Int), .slice A len cap] 25)
      obtain ⟨u0, hu0⟩ : ∃ u, (w.alloc (.cells #[.int .i64 op, .int .i64 (q : Int), .slice A len cap] 25)).cell? ⟨g, q, none⟩ = some u := ⟨_, hrow1.cell hq⟩
      have hfz := hrow1.frozen q
      have Hrow1a := hide ((Hrow.out.set q (.bool true)).congr (g := arrV fun i => f i || ((op == opx) && ((q : Int) == (i : Int)))) (fun i hi => by
        simp only [arrV, ho, Bool.true_and]
        by_cases e : i = q
        · subst e; simp
        · rw [if_neg e]
          have : ((q : Int) == (i : Int)) = false := by rw [beq_eq_false_iff_ne]; omega
          rw [this, Bool.or_false]))
      clear ho' hrow1 n0 n6
      go_enter Try.func68, Try.ntmps68
      go_wp2_with fail
      go_region
      have Hrow1 := hide ((Hrow1a.out.alloc (.cells #[.int .i64 op, .int .i64 (q : Int), .slice A len cap] 25)).drew)
      clear hob hu0 hfz Hrow1a Hbox
      have hob : Onl g w ((w.setCell ⟨g, q, none⟩ (.bool true)).alloc (.cells #[.int .i64 op, .int .i64 (q : Int), .slice A len cap] 25)).drew := (((Onl.refl g w).set q _).alloc _).drew
      have hb2 : ((w.setCell ⟨g, q, none⟩ (.bool true)).alloc (.cells #[.int .i64 op, .int .i64 (q : Int), .slice A len cap] 25)).drew.cell? ⟨w.heap.size, 2, none⟩ = some (.slice A len cap) := by
        have := (box_new (w.setCell ⟨g, q, none⟩ (.bool true)) op (q : Int) A len cap 25).2.2
        simpa [World.setCell] using this
      go_wp2_with fail
      clear hb2
      generalize hW : ((w.setCell ⟨g, q, none⟩ (.bool true)).alloc (.cells #[.int .i64 op, .int .i64 (q : Int), .slice A len cap] 25)).drew = w2 at *
      clear hW
      go_loopw [20] (fun i wr => ∃ (k : Nat), k ≤ len ∧ i = .int .i64 k ∧ wr.rowIs g 86 6 (arrV fun i => (f i || ((op == opx) && ((q : Int) == (i : Int)))) || rdK (t.kids.take k) opx i) ∧ Onl g w wr) (fun i _ => len - (intOf i).toNat)
      case atStart => exact ⟨0, Nat.zero_le _, rfl, Hrow1.out.congr (fun i _ => by simp [arrV, rdK]), hob⟩
      case round =>
        obtain ⟨k, hk, rfl, hrw, hb⟩ := hrel
        have hsz := hb.size
        by_cases hlt : k < len
        · have hlt' : ((k : Int) < (len : Int)) := by omega
          obtain ⟨b, off, u, op2, n2, A2, l2, c2, rfl, hbB, hku, ⟨c0, c1, cs⟩, hre2⟩ := (Hre.out.below (hb.below hg hB)).at_ hlt
          have Hsu := hide (soundK_at _ k u (sound_kids Hsd.out) hku)
          have Htk : Hid (∀ i, rdK (t.kids.take (k + 1)) opx i = (rdK (t.kids.take k) opx i || rdT u opx i)) := hide (fun i => by
            obtain ⟨hkl, e⟩ := List.getElem?_eq_some_iff.1 hku
            rw [List.take_succ_eq_append_getElem hkl, rdK_snoc, e])
          clear hku
          have Hre3 := hide (hre2.below ((Below.refl B wr).alloc (by omega) (.cells #[.int .i64 op2, .int .i64 n2, .slice A2 l2 c2] 25)))
          clear hre2
          have hbz : B ≤ (wr.alloc (.cells #[.int .i64 op2, .int .i64 n2, .slice A2 l2 c2] 25)).heap.size := by simp; omega
          have Hrw := hide (hrw.alloc (.cells #[.int .i64 op2, .int .i64 n2, .slice A2 l2 c2] 25))
          clear hrw
          go_wp2_with fail
          refine (IH.out op2 n2 A2 l2 c2 u _ _ hbz hg Hre3.out Hsu.out Hrw.out).mono ?_
          rintro e w3 ⟨rfl, hrow3, hon3⟩
          have Hrow3 := hide (hrow3.congr (g := arrV fun i => (f i || ((op == opx) && ((q : Int) == (i : Int)))) || rdK (t.kids.take (k + 1)) opx i) (fun i _ => by simp only [arrV]; rw [Htk.out i, Bool.or_assoc]))
          have hbw3 := (hb.alloc _).trans hon3
          clear hrow3 hon3 c0 c1 cs Hre3 hbz Hrw Htk
          go_wp2_with fail
          go_roundw
          case rel => exact ⟨k + 1, by omega, by go_num, Hrow3.out, hbw3⟩
          case measure => simp [intOf]; omega
        · have hlt' : ¬ ((k : Int) < (len : Int)) := by omega
          have Hf := hide (hrw.congr (g := arrV fun i => f i || rdT t opx i) (fun i _ => by simp only [arrV]; rw [Hrd.out i, List.take_of_length_le (by rw [Hlen.out]; omega), Bool.or_assoc]))
          clear hrw
          go_wp2_with fail
          go_end0
          exact ⟨rfl, Hf.out, hb⟩
set_option maxRecDepth 100000 in
set_option maxHeartbeats 1000000 in
theorem reads_any (B d : Nat) (op n : Int) (A : Option Addr) (len cap : Nat) (t : T) (next : Bool) (w : World) (hB : B ≤ w.heap.size) (hre : RE w B d op n A len cap t) :
    Calls Try.prog 61 #[.agg #[.int .i64 op, .int .i64 n, .slice A len cap], .bool next] w (RefReads w (readsE t next)) := by
  have Hre := hide (hre.below ((Below.refl B w).alloc hB (.cells #[.int .i64 op, .int .i64 n, .slice A len cap] 25)))
  clear hre
  have hbz : B ≤ (w.alloc (.cells #[.int .i64 op, .int .i64 n, .slice A len cap] 25)).heap.size := by simp; omega
  have Hbox := hide (box_new w op n A len cap 25)
  obtain ⟨i0, hi0, hz0, hz1, hz2⟩ := info_parts info3
  have Hi0 := hide hi0; have Hz0 := hide hz0; have Hz1 := hide hz1; have Hz2 := hide hz2
  clear hi0 hz0 hz1 hz2
  go_enter Try.func61, Try.ntmps61
  go_wp2_with fail
  refine (may_any B d op n A len cap t _ hbz Hre.out).mono ?_
  rintro e w1 ⟨rfl, hb1⟩
  have hz1 := hb1.size
  have hbw1 := below_box (Below.refl w.heap.size w) (Nat.le_refl _) hb1
  obtain ⟨d0, d1, d2⟩ := Hbox.out.below hb1 (by simp)
  have hzw : w.heap.size < w1.heap.size := by simp at hz1; omega
  have Hre1 := hide (Hre.out.below (hb1.mono hbz))
  have hbz1 : B ≤ w1.heap.size := by omega
  clear hb1 hbz Hre Hbox
  by_cases hm : mayE t = 0
  · have hmb : (mayE t != 0) = false := by simp [hm]
    have Hsd := hide (may_sound hm)
    have Hres : Hid (readsE t next = pickTo (fun i => rdT t (opOf next) i) 6) := hide (by unfold readsE; rw [if_pos hm])
    clear hm
    have hrow0 : (w1.alloc (.cells #[.bool false, .bool false, .bool false, .bool false, .bool false, .bool false] 86)).rowIs w1.heap.size 86 6 (arrV fun _ => false) := World.rowIs_alloc w1 _ 86 _ (fun i hi => by
      have h : i = 0 ∨ i = 1 ∨ i = 2 ∨ i = 3 ∨ i = 4 ∨ i = 5 := by simp at hi; omega
      rcases h with rfl | rfl | rfl | rfl | rfl | rfl <;> rfl)
    have Hrow0 := hide hrow0
    clear hrow0
    have Hre2 := hide (Hre1.out.below ((Below.refl B w1).alloc hbz1 (.cells #[.bool false, .bool false, .bool false, .bool false, .bool false, .bool false] 86)))
    have hbz2 : B ≤ (w1.alloc (.cells #[.bool false, .bool false, .bool false, .bool false, .bool false, .bool false] 86)).heap.size := by simp; omega
    cases next
    · go_wp2_with fail
      refine (mark_any B w1.heap.size 3 (.inl rfl) d op n A len cap t (fun _ => false) _ hbz2 (by omega) Hre2.out Hsd.out Hrow0.out).mono ?_
      rintro e w2 ⟨rfl, hrow2, hon2⟩
      have hbw2 : Below w.heap.size w w2 := (hbw1.alloc (by omega) _).trans (hon2.below (by omega) (by simp; omega))
      have hz2 := hbw2.size
      have Hres2 : Hid (readsE t false = pickTo (fun i => rdT t 3 i) 6) := Hres
      have hrow3 : w2.rowIs w1.heap.size 86 6 (arrV fun i => rdT t 3 i) := hrow2.congr (fun i _ => by simp [arrV])
      clear hrow2
      generalize (fun i => rdT t 3 i) = F at *
      have a0 : w2.cell? ⟨w1.heap.size, 0, none⟩ = some (.bool (F 0)) := hrow3.cell (by omega)
      have a1 : w2.cell? ⟨w1.heap.size, 1, none⟩ = some (.bool (F 1)) := hrow3.cell (by omega)
      have a2 : w2.cell? ⟨w1.heap.size, 2, none⟩ = some (.bool (F 2)) := hrow3.cell (by omega)
      have a3 : w2.cell? ⟨w1.heap.size, 3, none⟩ = some (.bool (F 3)) := hrow3.cell (by omega)
      have a4 : w2.cell? ⟨w1.heap.size, 4, none⟩ = some (.bool (F 4)) := hrow3.cell (by omega)
      have a5 : w2.cell? ⟨w1.heap.size, 5, none⟩ = some (.bool (F 5)) := hrow3.cell (by omega)
      clear hrow3 hon2 d0 d1 d2 Hre1 Hre2 Hrow0 hbz2 Hres
      go_wp2_with fail
      clear a0 a1 a2 a3 a4 a5
      go_loopw [7, 18] (fun o i wr => ∃ (k m cc : Nat) (O : Option Addr), k ≤ 6 ∧ i = .int .i64 k ∧ o = .slice O m cc ∧ m ≤ k ∧ Hid ((pickTo F k).length = m) ∧ wr.ownsRow w.heap.size 3 1 (.slice O m cc) m (ints (pickTo F k)) ∧ Below w.heap.size w wr) (fun _ i _ => 6 - (intOf i).toNat)
      case atStart => exact ⟨0, 0, 0, none, by omega, rfl, rfl, by omega, hide rfl, ⟨rfl, .inl ⟨rfl, rfl⟩⟩, hbw2⟩
      case round =>
        obtain ⟨k, m, cc, O, hk, rfl, rfl, hmk, HL, hown, hb⟩ := hrel
        have hsz := hb.size
        by_cases hlt : k < 6
        · have hlt' : (k : Int) < 6 := by omega
          have hix := arr_idx F k hlt
          have Hps := hide (pickTo_succ F k)
          cases hF : F k
          · have Hp2 : Hid (pickTo F (k + 1) = pickTo F k) := hide (by rw [Hps.out, hF]; rfl)
            have Hown := hide hown
            clear hown
            go_wp2_with fail
            go_roundw
            case rel => exact ⟨k + 1, m, cc, O, by omega, by go_num, rfl, by omega, by rw [Hp2.out]; exact HL, by rw [Hp2.out]; exact Hown.out, hb⟩
            case measure => simp [intOf]; omega
          · have Hp2 : Hid (pickTo F (k + 1) = pickTo F k ++ [(k : Int)]) := hide (by rw [Hps.out, hF]; rfl)
            have Hown := hide hown
            clear hown
            go_wp2_with (at_builtin; refine wpList_append_lies _ rfl _ _ _ rfl w.heap.size 3 i0 _ 1 8 Try.underlying68 Hi0.out Hz0.out Hz1.out Hz2.out rfl (by omega) (.slice O m cc) m (ints (pickTo F k)) rfl (Hown.out.alloc _) ⟨wr.heap.size, 0, none⟩ 1 1 [.int .i64 (k : Int)] rfl rfl (World.news_of_block (cs := #[.int .i64 (k : Int)]) (t := 3) (fr := (0, 0)) (heap_alloc_new wr _)) (by simp [Value.oneCell']) (by omega) (by unfold maxLen; omega) (by omega) (by simp; omega) _ rfl ?_; intro gg cap w5 hown5 hgrow hat hlt5)
            have hbw5 : Below w.heap.size w w5 := (hb.alloc hsz _).grown hgrow (by simp; omega) (fun q hq => (Hown.out.lt q hq).1)
            have Hown5 : Hid (w5.ownsRow w.heap.size 3 1 (.slice (some ⟨gg, 0, none⟩) (m + 1) cap) (m + 1) (ints (pickTo F (k + 1)))) := hide (by rw [Hp2.out, ints, List.map_append]; exact hown5)
            have HL2 : Hid ((pickTo F (k + 1)).length = m + 1) := hide (by rw [Hp2.out, List.length_append, HL.out]; rfl)
            clear hown5 hgrow hat hlt5
            go_wp2_with fail
            go_roundw
            case rel => exact ⟨k + 1, m + 1, cap, some ⟨gg, 0, none⟩, by omega, by go_num, rfl, by omega, HL2, Hown5.out, hbw5⟩
            case measure => simp [intOf]; omega
        · have hlt' : ¬ (k : Int) < 6 := by omega
          obtain rfl : k = 6 := by omega
          have Hown := hide hown
          clear hown
          go_wp2_with fail
          go_ret
          exact ⟨O, m, cc, rfl, by rw [Hres2.out]; exact Hown.out, by rw [Hres2.out]; exact HL.out, hb⟩
    · go_wp2_with fail
      refine (mark_any B w1.heap.size 4 (.inr rfl) d op n A len cap t (fun _ => false) _ hbz2 (by omega) Hre2.out Hsd.out Hrow0.out).mono ?_
      rintro e w2 ⟨rfl, hrow2, hon2⟩
      have hbw2 : Below w.heap.size w w2 := (hbw1.alloc (by omega) _).trans (hon2.below (by omega) (by simp; omega))
      have hz2 := hbw2.size
      have Hres2 : Hid (readsE t true = pickTo (fun i => rdT t 4 i) 6) := Hres
      have hrow3 : w2.rowIs w1.heap.size 86 6 (arrV fun i => rdT t 4 i) := hrow2.congr (fun i _ => by simp [arrV])
      clear hrow2
      generalize (fun i => rdT t 4 i) = F at *
      have a0 : w2.cell? ⟨w1.heap.size, 0, none⟩ = some (.bool (F 0)) := hrow3.cell (by omega)
      have a1 : w2.cell? ⟨w1.heap.size, 1, none⟩ = some (.bool (F 1)) := hrow3.cell (by omega)
      have a2 : w2.cell? ⟨w1.heap.size, 2, none⟩ = some (.bool (F 2)) := hrow3.cell (by omega)
      have a3 : w2.cell? ⟨w1.heap.size, 3, none⟩ = some (.bool (F 3)) := hrow3.cell (by omega)
      have a4 : w2.cell? ⟨w1.heap.size, 4, none⟩ = some (.bool (F 4)) := hrow3.cell (by omega)
      have a5 : w2.cell? ⟨w1.heap.size, 5, none⟩ = some (.bool (F 5)) := hrow3.cell (by omega)
      clear hrow3 hon2 d0 d1 d2 Hre1 Hre2 Hrow0 hbz2 Hres
      go_wp2_with fail
      clear a0 a1 a2 a3 a4 a5
      go_loopw [7, 18] (fun o i wr => ∃ (k m cc : Nat) (O : Option Addr), k ≤ 6 ∧ i = .int .i64 k ∧ o = .slice O m cc ∧ m ≤ k ∧ Hid ((pickTo F k).length = m) ∧ wr.ownsRow w.heap.size 3 1 (.slice O m cc) m (ints (pickTo F k)) ∧ Below w.heap.size w wr) (fun _ i _ => 6 - (intOf i).toNat)
      case atStart => exact ⟨0, 0, 0, none, by omega, rfl, rfl, by omega, hide rfl, ⟨rfl, .inl ⟨rfl, rfl⟩⟩, hbw2⟩
      case round =>
        obtain ⟨k, m, cc, O, hk, rfl, rfl, hmk, HL, hown, hb⟩ := hrel
        have hsz := hb.size
        by_cases hlt : k < 6
        · have hlt' : (k : Int) < 6 := by omega
          have hix := arr_idx F k hlt
          have Hps := hide (pickTo_succ F k)
          cases hF : F k
          · have Hp2 : Hid (pickTo F (k + 1) = pickTo F k) := hide (by rw [Hps.out, hF]; rfl)
            have Hown := hide hown
            clear hown
            go_wp2_with fail
            go_roundw
            case rel => exact ⟨k + 1, m, cc, O, by omega, by go_num, rfl, by omega, by rw [Hp2.out]; exact HL, by rw [Hp2.out]; exact Hown.out, hb⟩
            case measure => simp [intOf]; omega
          · have Hp2 : Hid (pickTo F (k + 1) = pickTo F k ++ [(k : Int)]) := hide (by rw [Hps.out, hF]; rfl)
            have Hown := hide hown
            clear hown
            go_wp2_with (at_builtin; refine wpList_append_lies _ rfl _ _ _ rfl w.heap.size 3 i0 _ 1 8 Try.underlying68 Hi0.out Hz0.out Hz1.out Hz2.out rfl (by omega) (.slice O m cc) m (ints (pickTo F k)) rfl (Hown.out.alloc _) ⟨wr.heap.size, 0, none⟩ 1 1 [.int .i64 (k : Int)] rfl rfl (World.news_of_block (cs := #[.int .i64 (k : Int)]) (t := 3) (fr := (0, 0)) (heap_alloc_new wr _)) (by simp [Value.oneCell']) (by omega) (by unfold maxLen; omega) (by omega) (by simp; omega) _ rfl ?_; intro gg cap w5 hown5 hgrow hat hlt5)
            have hbw5 : Below w.heap.size w w5 := (hb.alloc hsz _).grown hgrow (by simp; omega) (fun q hq => (Hown.out.lt q hq).1)
            have Hown5 : Hid (w5.ownsRow w.heap.size 3 1 (.slice (some ⟨gg, 0, none⟩) (m + 1) cap) (m + 1) (ints (pickTo F (k + 1)))) := hide (by rw [Hp2.out, ints, List.map_append]; exact hown5)
            have HL2 : Hid ((pickTo F (k + 1)).length = m + 1) := hide (by rw [Hp2.out, List.length_append, HL.out]; rfl)
            clear hown5 hgrow hat hlt5
            go_wp2_with fail
            go_roundw
            case rel => exact ⟨k + 1, m + 1, cap, some ⟨gg, 0, none⟩, by omega, by go_num, rfl, by omega, HL2, Hown5.out, hbw5⟩
            case measure => simp [intOf]; omega
        · have hlt' : ¬ (k : Int) < 6 := by omega
          obtain rfl : k = 6 := by omega
          have Hown := hide hown
          clear hown
          go_wp2_with fail
          go_ret
          exact ⟨O, m, cc, rfl, by rw [Hres2.out]; exact Hown.out, by rw [Hres2.out]; exact HL.out, hb⟩
  · have hmb : (mayE t != 0) = true := by simp [hm]
    have Hres : Hid (readsE t next = []) := hide (by unfold readsE; rw [if_neg hm])
    clear hm
    go_wp2_with fail
    go_ret
    exact ⟨none, 0, 0, rfl, by rw [Hres.out]; exact ⟨rfl, .inl ⟨rfl, rfl⟩⟩, by rw [Hres.out]; rfl, hbw1⟩
end Go.Proofs.Ytddbplgcglgloaa.Ex
namespace Go.Proofs.Ytddbplgcglgloaa.Ex
open Go.RowKit
set_option linter.unusedSimpArgs false
set_option linter.unusedVariables false

def RI (w : World) (B : Nat) (A : Option Addr) (n : Nat) (l : List Int) : Prop :=
  l.length = n ∧ (0 < n → ∃ b off, A = some ⟨b, off, none⟩ ∧ b < B ∧ ∀ k x, l[k]? = some x → w.cell? ⟨b, off + k, none⟩ = some (.int .i64 x))
section
variable {w w' : World} {B B' n : Nat} {A : Option Addr} {xs : List Int}
theorem RI.keep (h : RI w B A n xs) (hk : ∀ p : Addr, p.block < B → w'.cell? p = w.cell? p) : RI w' B A n xs :=
  ⟨h.1, fun hn => by
    obtain ⟨b, off, e, hb, hc⟩ := h.2 hn
    exact ⟨b, off, e, hb, fun k v hv => (hk _ (by exact hb)).trans (hc k v hv)⟩⟩
theorem RI.below (h : RI w B A n xs) (hb : Below B w w') : RI w' B A n xs := h.keep fun _ hp => hb.cell hp
theorem RI.more (h : RI w B A n xs) (hB : B ≤ B') : RI w B' A n xs :=
  ⟨h.1, fun hn => by
    obtain ⟨b, off, e, hb, hc⟩ := h.2 hn
    exact ⟨b, off, e, by omega, hc⟩⟩
theorem RI.at_ {k : Nat} (h : RI w B A n xs) (hk : k < n) : ∃ b off x, A = some ⟨b, off, none⟩ ∧ b < B ∧ xs[k]? = some x ∧ w.cell? ⟨b, off + k, none⟩ = some (.int .i64 x) := by
  obtain ⟨b, off, e, hb, hc⟩ := h.2 (by omega)
  have hl : k < xs.length := by have := h.1; omega
  exact ⟨b, off, xs[k], e, hb, List.getElem?_eq_getElem hl, hc k _ (List.getElem?_eq_getElem hl)⟩
end

theorem own_ri {w : World} {base n c : Nat} {A : Option Addr} {xs : List Int} (h : w.ownsRow base 3 1 (.slice A n c) n (ints xs)) : RI w w.heap.size A n xs := by
  have hl : xs.length = n := by have := h.1; simpa [ints] using this
  refine ⟨hl, fun hn => ?_⟩
  obtain ⟨g, cap, hv, hb, hlt⟩ := h.form hn
  have hA : A = some ⟨g, 0, none⟩ := by injection hv
  subst hA
  refine ⟨g, 0, rfl, hlt, fun k x hx => ?_⟩
  have := h.cells (g := g) rfl k (.int .i64 x) (by simp [ints, hx])
  rw [Nat.zero_add]
  by_cases hk : k = 0
  · subst hk; simpa [Addr.add] using this
  · simpa [Addr.add, hk] using this
end Go.Proofs.Ytddbplgcglgloaa.Ex
namespace Go.Proofs.Ytddbplgcglgloaa.Ex
open Go.RowKit
set_option linter.unusedSimpArgs false
set_option linter.unusedVariables false

theorem RE.leaf (w : World) (B d : Nat) (op n : Int) : RE w B (d + 1) op n none 0 0 (.mk op n []) :=
  ⟨rfl, rfl, rfl, Nat.le_refl _, by unfold maxLen; omega, fun h => absurd h (by omega)⟩
theorem RE.node {w : World} {B d : Nat} {op n : Int} {b off len cap : Nat} {ks : List T} (hlen : ks.length = len) (hlc : len ≤ cap) (hcap : cap ≤ maxLen) (hb : b < B)
    (h : ∀ k u, ks[k]? = some u → ∃ op2 n2 A2 l2 c2, CellE w b (off + k * 3) op2 n2 A2 l2 c2 ∧ RE w B d op2 n2 A2 l2 c2 u) : RE w B (d + 1) op n (some ⟨b, off, none⟩) len cap (.mk op n ks) :=
  ⟨rfl, rfl, hlen, hlc, hcap, fun _ => ⟨b, off, rfl, hb, h⟩⟩
theorem RE.up {w : World} {B : Nat} : ∀ (d : Nat) (op n : Int) (A : Option Addr) (len cap : Nat) (t : T), RE w B d op n A len cap t → RE w B (d + 1) op n A len cap t
  | 0, _, _, _, _, _, _, h => absurd h id
  | d + 1, op, n, A, len, cap, t, ⟨h1, h2, h3, h4, h5, h6⟩ => ⟨h1, h2, h3, h4, h5, fun hl => by
      obtain ⟨b, off, e, hb, hc⟩ := h6 hl
      refine ⟨b, off, e, hb, fun k u hu => ?_⟩
      obtain ⟨op2, n2, A2, l2, c2, hce, hre⟩ := hc k u hu
      exact ⟨op2, n2, A2, l2, c2, hce, RE.up d op2 n2 A2 l2 c2 u hre⟩⟩
theorem RE.ups {w : World} {B d : Nat} {op n : Int} {A : Option Addr} {len cap : Nat} {t : T} (k : Nat) (h : RE w B d op n A len cap t) : RE w B (d + k) op n A len cap t := by
  induction k with
  | zero => exact h
  | succ k ih => exact RE.up _ _ _ _ _ _ _ ih
theorem RE.eq_mk {w : World} {B d : Nat} {op n : Int} {A : Option Addr} {len cap : Nat} {t : T} (h : RE w B d op n A len cap t) : t = .mk op n t.kids := by
  match d, h with
  | d + 1, ⟨h1, h2, _⟩ => cases t; simp only [T.op, T.n] at h1 h2; subst h1; subst h2; rfl
theorem RE.bound {w : World} {B d : Nat} {op n : Int} {A : Option Addr} {len cap : Nat} {t : T} (h : RE w B d op n A len cap t) : t.kids.length = len ∧ len ≤ cap ∧ cap ≤ maxLen := by
  match d, h with
  | d + 1, ⟨_, _, h3, h4, h5, _⟩ => exact ⟨h3, h4, h5⟩

def exT : T := .mk 12 0 [.mk 1 1 [], .mk 3 2 []]
theorem ex_may : mayE exT = 0 := by decide +kernel
theorem ex_nodes : nodesE exT = 3 := by decide +kernel
theorem ex_reads : readsE exT false = [2] := by decide +kernel
def exCells : Array Value := #[.int .i64 1, .int .i64 1, .slice none 0 0, .int .i64 3, .int .i64 2, .slice none 0 0]
theorem ex_re (w : World) : RE (w.alloc (.cells exCells 25)) (w.heap.size + 1) 2 12 0 (some ⟨w.heap.size, 0, none⟩) 2 2 exT := by
  refine RE.node rfl (by omega) (by unfold maxLen; omega) (by omega) (fun k u hu => ?_)
  match k, hu with
  | 0, hu => simp at hu; subst hu; exact ⟨1, 1, none, 0, 0, by simp [CellE, go_sem, exCells], RE.leaf _ _ _ _ _⟩
  | 1, hu => simp at hu; subst hu; exact ⟨3, 2, none, 0, 0, by simp [CellE, go_sem, exCells], RE.leaf _ _ _ _ _⟩
  | k + 2, hu => simp at hu

end Go.Proofs.Ytddbplgcglgloaa.Ex
