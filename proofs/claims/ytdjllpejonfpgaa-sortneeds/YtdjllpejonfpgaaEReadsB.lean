/- The walk of the reference's Reads. -/
import Derived.Test.YtdjllpejonfpgaaEReads
import Derived.Deep.AppendLies
import Derived.OwnWalk
namespace Go.Proofs.Ytdjllpejonfpgaa.Ex
open Go.RowKit
set_option linter.unusedSimpArgs false
set_option linter.unusedVariables false

def ints (xs : List Int) : List Value := xs.map (Value.int .i64)
def pickTo (F : Nat → Bool) (k : Nat) : List Int := ((List.range k).filter F).map (fun i : Nat => (i : Int))
theorem pickTo_succ (F : Nat → Bool) (k : Nat) : pickTo F (k + 1) = if F k = true then pickTo F k ++ [(k : Int)] else pickTo F k := by
  unfold pickTo
  rw [List.range_succ, List.filter_append]
  by_cases h : F k = true
  · simp [h]
  · simp [h]
theorem pickTo_len (F : Nat → Bool) (k : Nat) : (pickTo F k).length ≤ k := by
  unfold pickTo
  have := List.length_filter_le F (List.range k)
  simpa using this
def opOf (next : Bool) : Int := if next = true then 4 else 3
def readsE (t : T) (next : Bool) : List Int := if mayE t = 0 then pickTo (fun i => rdT t (opOf next) i) 6 else []
theorem may_sound {t : T} (h : mayE t = 0) : sound t = true := by
  unfold mayE at h
  split at h
  · omega
  · split at h
    · omega
    · rename_i h2; cases hs : sound t
      · exact absurd hs h2
      · rfl
def RefReads (w : World) (xs : List Int) (e : Ending) (w' : World) : Prop :=
  ∃ A n c, e = .returned (.slice A n c) ∧ w'.ownsRow w.heap.size 3 1 (.slice A n c) n (ints xs) ∧ xs.length = n ∧ Below w.heap.size w w'
theorem info3 : (Try.prog.info? 3).map (fun i => (i.zero, i.size, i.bytes)) = some (some (.int .i64 0), 1, 8) := by kernel_rfl
theorem arr_idx (F : Nat → Bool) (k : Nat) (hk : k < 6) (w : World) : (Instr.index 50 (.agg #[.bool (F 0), .bool (F 1), .bool (F 2), .bool (F 3), .bool (F 4), .bool (F 5)]) (.int .i64 (k : Int))).run Try.prog w = .ok (.bool (F k)) w := by
  have h : k = 0 ∨ k = 1 ∨ k = 2 ∨ k = 3 ∨ k = 4 ∨ k = 5 := by omega
  rcases h with rfl | rfl | rfl | rfl | rfl | rfl
  all_goals exact (show Sem.run Try.prog _ w = _ by kernel_rfl)

set_option maxRecDepth 100000 in
set_option maxHeartbeats 1000000 in
theorem rReads_any (B d : Nat) (op n : Int) (A : Option Addr) (len cap : Nat) (t : T) (next : Bool) (w : World) (hB : B ≤ w.heap.size) (hre : RE w B d op n A len cap t) :
    Calls Try.prog 25 #[.agg #[.int .i64 op, .int .i64 n, .slice A len cap], .bool next] w (RefReads w (readsE t next)) := by
  have Hre := hide (hre.below ((Below.refl B w).alloc hB (.cells #[.int .i64 op, .int .i64 n, .slice A len cap] 25)))
  clear hre
  have hbz : B ≤ (w.alloc (.cells #[.int .i64 op, .int .i64 n, .slice A len cap] 25)).heap.size := by simp; omega
  have Hbox := hide (box_new w op n A len cap 25)
  obtain ⟨i0, hi0, hz0, hz1, hz2⟩ := info_parts info3
  have Hi0 := hide hi0; have Hz0 := hide hz0; have Hz1 := hide hz1; have Hz2 := hide hz2
  clear hi0 hz0 hz1 hz2
  go_enter Try.func25, Try.ntmps25
  go_wp2_with fail
  refine (rmay_any B d op n A len cap t _ hbz Hre.out).mono ?_
  rintro e w1 ⟨rfl, hb1⟩
  have hz1 := hb1.size
  have hbw1 := below_box (Below.refl w.heap.size w) (Nat.le_refl _) hb1
  obtain ⟨d0, d1, d2⟩ := Hbox.out.below hb1 (by simp)
  have hzw : w.heap.size < w1.heap.size := by simp at hz1; omega
  have Hre1 := hide (Hre.out.below (hb1.mono hbz))
  have hbz1 : B ≤ w1.heap.size := by omega
  clear hb1 hbz Hre Hbox
  by_cases hm : mayE t = 0
  · have hmb : (mayE t != 0) = false := by simp [hm]
    have Hsd := hide (may_sound hm)
    have Hres : Hid (readsE t next = pickTo (fun i => rdT t (opOf next) i) 6) := hide (by unfold readsE; rw [if_pos hm])
    clear hm
    have hrow0 : (w1.alloc (.cells #[.bool false, .bool false, .bool false, .bool false, .bool false, .bool false] 50)).rowIs w1.heap.size 50 6 (arrV fun _ => false) := World.rowIs_alloc w1 _ 50 _ (fun i hi => by
      have h : i = 0 ∨ i = 1 ∨ i = 2 ∨ i = 3 ∨ i = 4 ∨ i = 5 := by simp at hi; omega
      rcases h with rfl | rfl | rfl | rfl | rfl | rfl <;> rfl)
    have Hrow0 := hide hrow0
    clear hrow0
    have Hre2 := hide (Hre1.out.below ((Below.refl B w1).alloc hbz1 (.cells #[.bool false, .bool false, .bool false, .bool false, .bool false, .bool false] 50)))
    have hbz2 : B ≤ (w1.alloc (.cells #[.bool false, .bool false, .bool false, .bool false, .bool false, .bool false] 50)).heap.size := by simp; omega
    cases next
    · go_wp2_with fail
      refine (rreads_any B w1.heap.size 3 (.inl rfl) d op n A len cap t (fun _ => false) _ hbz2 (by omega) Hre2.out Hsd.out Hrow0.out).mono ?_
      rintro e w2 ⟨rfl, hrow2, hon2⟩
      have hbw2 : Below w.heap.size w w2 := (hbw1.alloc (by omega) _).trans (hon2.below (by omega) (by simp; omega))
      have hz2 := hbw2.size
      have Hres2 : Hid (readsE t false = pickTo (fun i => rdT t 3 i) 6) := Hres
      have hrow3 : w2.rowIs w1.heap.size 50 6 (arrV fun i => rdT t 3 i) := hrow2.congr (fun i _ => by simp [arrV])
      clear hrow2
      generalize (fun i => rdT t 3 i) = F at *
      have a0 : w2.cell? ⟨w1.heap.size, 0, none⟩ = some (.bool (F 0)) := hrow3.cell (by omega)
      have a1 : w2.cell? ⟨w1.heap.size, 1, none⟩ = some (.bool (F 1)) := hrow3.cell (by omega)
      have a2 : w2.cell? ⟨w1.heap.size, 2, none⟩ = some (.bool (F 2)) := hrow3.cell (by omega)
      have a3 : w2.cell? ⟨w1.heap.size, 3, none⟩ = some (.bool (F 3)) := hrow3.cell (by omega)
      have a4 : w2.cell? ⟨w1.heap.size, 4, none⟩ = some (.bool (F 4)) := hrow3.cell (by omega)
      have a5 : w2.cell? ⟨w1.heap.size, 5, none⟩ = some (.bool (F 5)) := hrow3.cell (by omega)
      clear hrow3 hon2 d0 d1 d2 Hre1 Hre2 Hrow0 hbz2 Hres
      go_wp2_with fail
      clear a0 a1 a2 a3 a4 a5
      go_loopw [7, 18] (fun o i wr => ∃ (k m cc : Nat) (O : Option Addr), k ≤ 6 ∧ i = .int .i64 k ∧ o = .slice O m cc ∧ m ≤ k ∧ Hid ((pickTo F k).length = m) ∧ wr.ownsRow w.heap.size 3 1 (.slice O m cc) m (ints (pickTo F k)) ∧ Below w.heap.size w wr) (fun _ i _ => 6 - (intOf i).toNat)
      case atStart => exact ⟨0, 0, 0, none, by omega, rfl, rfl, by omega, hide rfl, ⟨rfl, .inl ⟨rfl, rfl⟩⟩, hbw2⟩
      case round =>
        obtain ⟨k, m, cc, O, hk, rfl, rfl, hmk, HL, hown, hb⟩ := hrel
        have hsz := hb.size
        by_cases hlt : k < 6
        · have hlt' : (k : Int) < 6 := by omega
          have hix := arr_idx F k hlt
          have Hps := hide (pickTo_succ F k)
          cases hF : F k
          · have Hp2 : Hid (pickTo F (k + 1) = pickTo F k) := hide (by rw [Hps.out, hF]; rfl)
            have Hown := hide hown
            clear hown
            go_wp2_with fail
            go_roundw
            case rel => exact ⟨k + 1, m, cc, O, by omega, by go_num, rfl, by omega, by rw [Hp2.out]; exact HL, by rw [Hp2.out]; exact Hown.out, hb⟩
            case measure => simp [intOf]; omega
          · have Hp2 : Hid (pickTo F (k + 1) = pickTo F k ++ [(k : Int)]) := hide (by rw [Hps.out, hF]; rfl)
            have Hown := hide hown
            clear hown
            go_wp2_with (at_builtin; refine wpList_append_lies _ rfl _ _ _ rfl w.heap.size 3 i0 _ 1 8 Try.underlying36 Hi0.out Hz0.out Hz1.out Hz2.out rfl (by omega) (.slice O m cc) m (ints (pickTo F k)) rfl (Hown.out.alloc _) ⟨wr.heap.size, 0, none⟩ 1 1 [.int .i64 (k : Int)] rfl rfl (World.news_of_block (cs := #[.int .i64 (k : Int)]) (t := 3) (fr := (0, 0)) (heap_alloc_new wr _)) (by simp [Value.oneCell']) (by omega) (by unfold maxLen; omega) (by omega) (by simp; omega) _ rfl ?_; intro gg cap w5 hown5 hgrow hat hlt5)
            have hbw5 : Below w.heap.size w w5 := (hb.alloc hsz _).grown hgrow (by simp; omega) (fun q hq => (Hown.out.lt q hq).1)
            have Hown5 : Hid (w5.ownsRow w.heap.size 3 1 (.slice (some ⟨gg, 0, none⟩) (m + 1) cap) (m + 1) (ints (pickTo F (k + 1)))) := hide (by rw [Hp2.out, ints, List.map_append]; exact hown5)
            have HL2 : Hid ((pickTo F (k + 1)).length = m + 1) := hide (by rw [Hp2.out, List.length_append, HL.out]; rfl)
            clear hown5 hgrow hat hlt5
            go_wp2_with fail
            go_roundw
            case rel => exact ⟨k + 1, m + 1, cap, some ⟨gg, 0, none⟩, by omega, by go_num, rfl, by omega, HL2, Hown5.out, hbw5⟩
            case measure => simp [intOf]; omega
        · have hlt' : ¬ (k : Int) < 6 := by omega
          obtain rfl : k = 6 := by omega
          have Hown := hide hown
          clear hown
          go_wp2_with fail
          go_ret
          exact ⟨O, m, cc, rfl, by rw [Hres2.out]; exact Hown.out, by rw [Hres2.out]; exact HL.out, hb⟩
    · go_wp2_with fail
      refine (rreads_any B w1.heap.size 4 (.inr rfl) d op n A len cap t (fun _ => false) _ hbz2 (by omega) Hre2.out Hsd.out Hrow0.out).mono ?_
      rintro e w2 ⟨rfl, hrow2, hon2⟩
      have hbw2 : Below w.heap.size w w2 := (hbw1.alloc (by omega) _).trans (hon2.below (by omega) (by simp; omega))
      have hz2 := hbw2.size
      have Hres2 : Hid (readsE t true = pickTo (fun i => rdT t 4 i) 6) := Hres
      have hrow3 : w2.rowIs w1.heap.size 50 6 (arrV fun i => rdT t 4 i) := hrow2.congr (fun i _ => by simp [arrV])
      clear hrow2
      generalize (fun i => rdT t 4 i) = F at *
      have a0 : w2.cell? ⟨w1.heap.size, 0, none⟩ = some (.bool (F 0)) := hrow3.cell (by omega)
      have a1 : w2.cell? ⟨w1.heap.size, 1, none⟩ = some (.bool (F 1)) := hrow3.cell (by omega)
      have a2 : w2.cell? ⟨w1.heap.size, 2, none⟩ = some (.bool (F 2)) := hrow3.cell (by omega)
      have a3 : w2.cell? ⟨w1.heap.size, 3, none⟩ = some (.bool (F 3)) := hrow3.cell (by omega)
      have a4 : w2.cell? ⟨w1.heap.size, 4, none⟩ = some (.bool (F 4)) := hrow3.cell (by omega)
      have a5 : w2.cell? ⟨w1.heap.size, 5, none⟩ = some (.bool (F 5)) := hrow3.cell (by omega)
      clear hrow3 hon2 d0 d1 d2 Hre1 Hre2 Hrow0 hbz2 Hres
      go_wp2_with fail
      clear a0 a1 a2 a3 a4 a5
      go_loopw [7, 18] (fun o i wr => ∃ (k m cc : Nat) (O : Option Addr), k ≤ 6 ∧ i = .int .i64 k ∧ o = .slice O m cc ∧ m ≤ k ∧ Hid ((pickTo F k).length = m) ∧ wr.ownsRow w.heap.size 3 1 (.slice O m cc) m (ints (pickTo F k)) ∧ Below w.heap.size w wr) (fun _ i _ => 6 - (intOf i).toNat)
      case atStart => exact ⟨0, 0, 0, none, by omega, rfl, rfl, by omega, hide rfl, ⟨rfl, .inl ⟨rfl, rfl⟩⟩, hbw2⟩
      case round =>
        obtain ⟨k, m, cc, O, hk, rfl, rfl, hmk, HL, hown, hb⟩ := hrel
        have hsz := hb.size
        by_cases hlt : k < 6
        · have hlt' : (k : Int) < 6 := by omega
          have hix := arr_idx F k hlt
          have Hps := hide (pickTo_succ F k)
          cases hF : F k
          · have Hp2 : Hid (pickTo F (k + 1) = pickTo F k) := hide (by rw [Hps.out, hF]; rfl)
            have Hown := hide hown
            clear hown
            go_wp2_with fail
            go_roundw
            case rel => exact ⟨k + 1, m, cc, O, by omega, by go_num, rfl, by omega, by rw [Hp2.out]; exact HL, by rw [Hp2.out]; exact Hown.out, hb⟩
            case measure => simp [intOf]; omega
          · have Hp2 : Hid (pickTo F (k + 1) = pickTo F k ++ [(k : Int)]) := hide (by rw [Hps.out, hF]; rfl)
            have Hown := hide hown
            clear hown
            go_wp2_with (at_builtin; refine wpList_append_lies _ rfl _ _ _ rfl w.heap.size 3 i0 _ 1 8 Try.underlying36 Hi0.out Hz0.out Hz1.out Hz2.out rfl (by omega) (.slice O m cc) m (ints (pickTo F k)) rfl (Hown.out.alloc _) ⟨wr.heap.size, 0, none⟩ 1 1 [.int .i64 (k : Int)] rfl rfl (World.news_of_block (cs := #[.int .i64 (k : Int)]) (t := 3) (fr := (0, 0)) (heap_alloc_new wr _)) (by simp [Value.oneCell']) (by omega) (by unfold maxLen; omega) (by omega) (by simp; omega) _ rfl ?_; intro gg cap w5 hown5 hgrow hat hlt5)
            have hbw5 : Below w.heap.size w w5 := (hb.alloc hsz _).grown hgrow (by simp; omega) (fun q hq => (Hown.out.lt q hq).1)
            have Hown5 : Hid (w5.ownsRow w.heap.size 3 1 (.slice (some ⟨gg, 0, none⟩) (m + 1) cap) (m + 1) (ints (pickTo F (k + 1)))) := hide (by rw [Hp2.out, ints, List.map_append]; exact hown5)
            have HL2 : Hid ((pickTo F (k + 1)).length = m + 1) := hide (by rw [Hp2.out, List.length_append, HL.out]; rfl)
            clear hown5 hgrow hat hlt5
            go_wp2_with fail
            go_roundw
            case rel => exact ⟨k + 1, m + 1, cap, some ⟨gg, 0, none⟩, by omega, by go_num, rfl, by omega, HL2, Hown5.out, hbw5⟩
            case measure => simp [intOf]; omega
        · have hlt' : ¬ (k : Int) < 6 := by omega
          obtain rfl : k = 6 := by omega
          have Hown := hide hown
          clear hown
          go_wp2_with fail
          go_ret
          exact ⟨O, m, cc, rfl, by rw [Hres2.out]; exact Hown.out, by rw [Hres2.out]; exact HL.out, hb⟩
  · have hmb : (mayE t != 0) = true := by simp [hm]
    have Hres : Hid (readsE t next = []) := hide (by unfold readsE; rw [if_neg hm])
    clear hm
    go_wp2_with fail
    go_ret
    exact ⟨none, 0, 0, rfl, by rw [Hres.out]; exact ⟨rfl, .inl ⟨rfl, rfl⟩⟩, by rw [Hres.out]; rfl, hbw1⟩
end Go.Proofs.Ytdjllpejonfpgaa.Ex
