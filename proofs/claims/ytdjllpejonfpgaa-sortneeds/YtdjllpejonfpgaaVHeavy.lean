/- The walks of Heavy (of the statements) and dom.Find. -/
import Derived.Test.YtdjllpejonfpgaaVAwake
namespace Go.Proofs.Ytdjllpejonfpgaa.Dom
open Go.RowKit Go.WideMaps Go.Maps
set_option linter.unusedSimpArgs false
set_option linter.unusedVariables false

def heavyGo (i : Nat) : List V → Int
  | [] => 0
  | v :: r => if 10 ≤ i ∨ 100 < v.nm.size then (i : Int) + 1 else heavyGo (i + 1) r
theorem heavy_nonneg : ∀ (l : List V) (i : Nat), 0 ≤ heavyGo i l
  | [], _ => by simp [heavyGo]
  | v :: r, i => by
    rw [heavyGo]; split
    · omega
    · exact heavy_nonneg r _
theorem heavy_none : ∀ (l : List V) (i : Nat), heavyGo i l = 0 → l.length + i ≤ max 10 i ∧ ∀ v ∈ l, v.nm.size ≤ 100
  | [], i, _ => by simp; omega
  | v :: r, i, h => by
    rw [heavyGo] at h
    split at h
    · omega
    · rename_i h1
      obtain ⟨h2, h3⟩ := heavy_none r (i + 1) h
      refine ⟨by simp only [List.length_cons]; omega, fun u hu => ?_⟩
      rcases List.mem_cons.1 hu with rfl | hu
      · omega
      · exact h3 u hu

set_option maxHeartbeats 400000 in
theorem heavy_any (A : Option Addr) (n c B : Nat) (l : List V) (w : World) (hm : n ≤ maxLen) (hB : B ≤ w.heap.size) (hv : RV w B A n l) (hnm : ∀ v ∈ l, v.nm.size ≤ maxLen) : Calls Try.prog 7 #[.slice A n c] w fun e w' => e = .returned (.int .i64 (heavyGo 0 l)) ∧ Below w.heap.size w w' := by
  have Hn := hide hv.1
  unfold maxLen at hm
  have Hv := hide hv; clear hv
  have Hnm := hide hnm; clear hnm
  go_enter Try.func7, Try.ntmps7
  go_wp2_with fail
  go_loopw [7] (fun i wr => ∃ (k : Nat), k ≤ n ∧ i = .int .i64 k ∧ Hid (heavyGo k (l.drop k) = heavyGo 0 l) ∧ Below w.heap.size w wr) (fun i _ => n - (intOf i).toNat)
  case atStart => exact ⟨0, Nat.zero_le _, rfl, hide rfl, Below.refl _ _⟩
  case round =>
    obtain ⟨k, hk, rfl, HT, hb⟩ := hrel
    by_cases hlt : k < n
    · have hlt' : ((k : Int) < (n : Int)) := by omega
      obtain ⟨b, off, v, rfl, hbB, hlk, c0, c1, c2, c3, c4⟩ := (Hv.out.below (hb.mono hB)).at_ hlt
      have hvl : v.nm.size ≤ 2 ^ 63 - 1 := Hnm.out v (List.mem_of_getElem? hlk)
      have Hst : Hid ((if 10 ≤ k ∨ 100 < v.nm.size then (k : Int) + 1 else heavyGo (k + 1) (l.drop (k + 1))) = heavyGo 0 l) := hide (by rw [← HT.out, drop_at hlk, heavyGo])
      clear hlk
      have hsz := hb.size
      by_cases h10 : 10 ≤ k
      · have h10b : decide ((10 : Int) ≤ (k : Int)) = true := by simp; omega
        have Hfin : Hid (heavyGo 0 l = (k : Int) + 1) := hide (by rw [← Hst.out, if_pos (.inl h10)])
        go_wp2_with fail
        go_ret
        exact ⟨ret_int Hfin.out.symm, hb.alloc hsz _⟩
      · have h10b : decide ((10 : Int) ≤ (k : Int)) = false := by simp; omega
        by_cases h100 : 100 < v.nm.size
        · have h100b : decide ((100 : Int) < (v.nm.size : Int)) = true := by simp; omega
          have Hfin : Hid (heavyGo 0 l = (k : Int) + 1) := hide (by rw [← Hst.out, if_pos (.inr h100)])
          go_wp2_with fail
          go_ret
          exact ⟨ret_int Hfin.out.symm, hb.alloc hsz _⟩
        · have h100b : decide ((100 : Int) < (v.nm.size : Int)) = false := by simp; omega
          have Hon : Hid (heavyGo (k + 1) (l.drop (k + 1)) = heavyGo 0 l) := hide (by rw [← Hst.out, if_neg (by omega)])
          go_wp2_with fail
          go_roundw
          case rel => exact ⟨k + 1, by omega, by go_num, Hon, hb.alloc hsz _⟩
          case measure => simp [intOf]; omega
    · have hlt' : ¬ ((k : Int) < (n : Int)) := by omega
      have Hfin : Hid (heavyGo 0 l = 0) := hide (by rw [← HT.out, List.drop_of_length_le (by rw [Hn.out]; omega), heavyGo])
      go_wp2_with fail
      go_ret
      exact ⟨ret_int Hfin.out.symm, hb⟩

def findGo (nm : List UInt8) (i : Nat) : List V → Int
  | [] => -1
  | v :: r => if v.nm.toList == nm then (i : Int) else findGo nm (i + 1) r

end Go.Proofs.Ytdjllpejonfpgaa.Dom
