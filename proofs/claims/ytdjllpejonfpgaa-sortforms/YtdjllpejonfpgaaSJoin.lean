/- The walk of the program's join: the sort of a node out of its children's sorts. -/
import Derived.Test.YtdjllpejonfpgaaSTyped
namespace Go.Proofs.Ytdjllpejonfpgaa
open Go.RowKit Ex
set_option linter.unusedSimpArgs false
set_option linter.unusedVariables false

def allEq (nd : Int) : List Int → Bool
  | [] => true
  | x :: r => (x == nd) && allEq nd r
theorem ri_tail {w : World} {B b off n : Nat} {x : Int} {xs : List Int} (h : RI w B (some ⟨b, off, none⟩) (n + 1) (x :: xs)) : RI w B (some ⟨b, off + 1, none⟩) n xs := by
  refine ⟨by have := h.1; simp at this; omega, fun hn => ?_⟩
  obtain ⟨b2, o2, e, hb, hc⟩ := h.2 (by omega)
  injection e with e; injection e with e1 e2
  subst e1; subst e2
  refine ⟨b, off + 1, rfl, hb, fun k v hv => ?_⟩
  have := hc (k + 1) v (by simpa using hv)
  rw [← this]; congr 2; omega

set_option maxRecDepth 100000 in
set_option maxHeartbeats 40000000 in
theorem join_any (B : Nat) (lv : List Dom.V) (nn op : Int) (A : Option Addr) (n c : Nat) (xs : List Int) (w : World) (hB : B ≤ w.heap.size) (ho1 : 1 ≤ op) (ho2 : op ≤ 15) (h3 : op ≠ 3) (h4 : op ≠ 4) (hk : (n : Int) = kidsOf op) (hnc : n ≤ c) (hc : c ≤ maxLen) (hri : RI w B A n xs) :
    Calls Try.prog 38 #[.int .i64 op, .slice A n c] w fun e w' => e = .returned (.tuple #[.int .i64 (tyN lv op nn xs).1, .int .i64 (tyN lv op nn xs).2]) ∧ Below w.heap.size w w' := by
  unfold maxLen at hc
  have hop : (op = 2 ∨ op = 5 ∨ op = 6 ∨ op = 7 ∨ op = 8) ∨ (op = 10 ∨ op = 11) ∨ (op = 1 ∨ op = 12 ∨ op = 13 ∨ op = 14) ∨ op = 9 ∨ op = 15 := by omega
  have hxl := hri.1
  have Hri := hide hri
  clear hri
  rcases hop with hop | hop | hop | rfl | rfl
  · have Hr : Hid (tyN lv op nn xs = if allEq 1 xs = true then (1, 0) else (0, 4)) := hide (by
      rcases hop with rfl | rfl | rfl | rfl | rfl <;> simp [kidsOf] at hk <;> rcases xs with _ | ⟨a, _ | ⟨b, _ | ⟨d, r⟩⟩⟩ <;> simp at hxl <;> first | omega | simp [tyN, allEq, List.getD])
    clear ho1 ho2 h3 h4 hk hxl
    rcases hop with rfl | rfl | rfl | rfl | rfl
    all_goals
      go_enter Try.func38, Try.ntmps38
      go_wp2_with fail
      go_loopw [40] (fun i wr => ∃ k : Nat, k ≤ n ∧ i = .int .i64 k ∧ Hid (allEq 1 (xs.drop k) = allEq 1 xs) ∧ wr = w) (fun i _ => n - (intOf i).toNat)
      case atStart => exact ⟨0, by omega, rfl, hide rfl, rfl⟩
      case round =>
        obtain ⟨k, hk2, rfl, HA, rfl⟩ := hrel
        by_cases hlt : k < n
        · have hlt' : ((k : Int) < (n : Int)) := by omega
          obtain ⟨b1, o1, x, hb1, _, hx, c1⟩ := Hri.out.at_ hlt
          subst hb1
          have Hst : Hid (((x == 1) && allEq 1 (xs.drop (k + 1))) = allEq 1 xs) := hide (by rw [← HA.out, drop_at hx, allEq])
          clear hx HA
          by_cases he : x = 1
          · have heb : (x != 1) = false := by simp [he]
            have Hs2 : Hid (allEq 1 (xs.drop (k + 1)) = allEq 1 xs) := hide (by rw [← Hst.out]; simp [he])
            clear he Hst
            go_wp2_with fail
            go_roundw
            case rel => exact ⟨k + 1, by omega, by go_num, Hs2, by first | rfl | trivial⟩
            case measure => simp [intOf]; omega
          · have heb : (x != 1) = true := by simp [he]
            have Hf : Hid (tyN lv _ nn (xs) = (0, 4)) := hide (by rw [Hr.out, ← Hst.out]; simp [he])
            clear he Hst
            go_wp2_with fail
            go_ret2
            exact ⟨ret_pair Hf.out, Below.refl _ _⟩
        · have hlt' : ¬ ((k : Int) < (n : Int)) := by omega
          have Hf : Hid (tyN lv _ nn (xs) = (1, 0)) := hide (by
            rw [Hr.out, ← HA.out, List.drop_of_length_le (by first | (rw [Hri.out.1]; omega) | (simp; omega))]; simp [allEq])
          clear HA
          go_wp2_with fail
          go_ret2
          exact ⟨ret_pair Hf.out, Below.refl _ _⟩
  · have Hr : Hid (tyN lv op nn xs = if allEq 2 xs = true then (1, 0) else (0, 4)) := hide (by
      rcases hop with rfl | rfl <;> simp [kidsOf] at hk <;> rcases xs with _ | ⟨a, _ | ⟨b, _ | ⟨d, r⟩⟩⟩ <;> simp at hxl <;> first | omega | simp [tyN, allEq, List.getD])
    clear ho1 ho2 h3 h4 hk hxl
    rcases hop with rfl | rfl
    all_goals
      go_enter Try.func38, Try.ntmps38
      go_wp2_with fail
      go_loopw [40] (fun i wr => ∃ k : Nat, k ≤ n ∧ i = .int .i64 k ∧ Hid (allEq 2 (xs.drop k) = allEq 2 xs) ∧ wr = w) (fun i _ => n - (intOf i).toNat)
      case atStart => exact ⟨0, by omega, rfl, hide rfl, rfl⟩
      case round =>
        obtain ⟨k, hk2, rfl, HA, rfl⟩ := hrel
        by_cases hlt : k < n
        · have hlt' : ((k : Int) < (n : Int)) := by omega
          obtain ⟨b1, o1, x, hb1, _, hx, c1⟩ := Hri.out.at_ hlt
          subst hb1
          have Hst : Hid (((x == 2) && allEq 2 (xs.drop (k + 1))) = allEq 2 xs) := hide (by rw [← HA.out, drop_at hx, allEq])
          clear hx HA
          by_cases he : x = 2
          · have heb : (x != 2) = false := by simp [he]
            have Hs2 : Hid (allEq 2 (xs.drop (k + 1)) = allEq 2 xs) := hide (by rw [← Hst.out]; simp [he])
            clear he Hst
            go_wp2_with fail
            go_roundw
            case rel => exact ⟨k + 1, by omega, by go_num, Hs2, by first | rfl | trivial⟩
            case measure => simp [intOf]; omega
          · have heb : (x != 2) = true := by simp [he]
            have Hf : Hid (tyN lv _ nn (xs) = (0, 4)) := hide (by rw [Hr.out, ← Hst.out]; simp [he])
            clear he Hst
            go_wp2_with fail
            go_ret2
            exact ⟨ret_pair Hf.out, Below.refl _ _⟩
        · have hlt' : ¬ ((k : Int) < (n : Int)) := by omega
          have Hf : Hid (tyN lv _ nn (xs) = (1, 0)) := hide (by
            rw [Hr.out, ← HA.out, List.drop_of_length_le (by first | (rw [Hri.out.1]; omega) | (simp; omega))]; simp [allEq])
          clear HA
          go_wp2_with fail
          go_ret2
          exact ⟨ret_pair Hf.out, Below.refl _ _⟩
  · have Hr : Hid (tyN lv op nn xs = if allEq 2 xs = true then (2, 0) else (0, 4)) := hide (by
      rcases hop with rfl | rfl | rfl | rfl <;> simp [kidsOf] at hk <;> rcases xs with _ | ⟨a, _ | ⟨b, _ | ⟨d, r⟩⟩⟩ <;> simp at hxl <;> first | omega | simp [tyN, allEq, List.getD])
    clear ho1 ho2 h3 h4 hk hxl
    rcases hop with rfl | rfl | rfl | rfl
    all_goals
      go_enter Try.func38, Try.ntmps38
      go_wp2_with fail
      go_loopw [40] (fun i wr => ∃ k : Nat, k ≤ n ∧ i = .int .i64 k ∧ Hid (allEq 2 (xs.drop k) = allEq 2 xs) ∧ wr = w) (fun i _ => n - (intOf i).toNat)
      case atStart => exact ⟨0, by omega, rfl, hide rfl, rfl⟩
      case round =>
        obtain ⟨k, hk2, rfl, HA, rfl⟩ := hrel
        by_cases hlt : k < n
        · have hlt' : ((k : Int) < (n : Int)) := by omega
          obtain ⟨b1, o1, x, hb1, _, hx, c1⟩ := Hri.out.at_ hlt
          subst hb1
          have Hst : Hid (((x == 2) && allEq 2 (xs.drop (k + 1))) = allEq 2 xs) := hide (by rw [← HA.out, drop_at hx, allEq])
          clear hx HA
          by_cases he : x = 2
          · have heb : (x != 2) = false := by simp [he]
            have Hs2 : Hid (allEq 2 (xs.drop (k + 1)) = allEq 2 xs) := hide (by rw [← Hst.out]; simp [he])
            clear he Hst
            go_wp2_with fail
            go_roundw
            case rel => exact ⟨k + 1, by omega, by go_num, Hs2, by first | rfl | trivial⟩
            case measure => simp [intOf]; omega
          · have heb : (x != 2) = true := by simp [he]
            have Hf : Hid (tyN lv _ nn (xs) = (0, 4)) := hide (by rw [Hr.out, ← Hst.out]; simp [he])
            clear he Hst
            go_wp2_with fail
            go_ret2
            exact ⟨ret_pair Hf.out, Below.refl _ _⟩
        · have hlt' : ¬ ((k : Int) < (n : Int)) := by omega
          have Hf : Hid (tyN lv _ nn (xs) = (2, 0)) := hide (by
            rw [Hr.out, ← HA.out, List.drop_of_length_le (by first | (rw [Hri.out.1]; omega) | (simp; omega))]; simp [allEq])
          clear HA
          go_wp2_with fail
          go_ret2
          exact ⟨ret_pair Hf.out, Below.refl _ _⟩
  · simp [kidsOf] at hk
    obtain rfl : n = 2 := by omega
    rcases xs with _ | ⟨a, _ | ⟨b, _ | ⟨d, r⟩⟩⟩ <;> simp at hxl
    have Hr : Hid (tyN lv 9 nn [a, b] = if allEq a [a, b] = true then (1, 0) else (0, 4)) := hide (by by_cases h : a = b <;> simp [tyN, allEq, List.getD, h] <;> omega)
    obtain ⟨b0, o0, x0, rfl, _, hx0, c0⟩ := Hri.out.at_ (k := 0) (by omega)
    simp at hx0
    subst hx0
    rw [Nat.add_zero] at c0
    clear ho1 ho2 h3 h4 hk
    go_enter Try.func38, Try.ntmps38
    go_wp2_with fail
    go_loopw [40] (fun i wr => ∃ k : Nat, k ≤ 2 ∧ i = .int .i64 k ∧ Hid (allEq a ([a, b].drop k) = allEq a [a, b]) ∧ wr = w) (fun i _ => 2 - (intOf i).toNat)
    case atStart => exact ⟨0, by omega, rfl, hide rfl, rfl⟩
    case round =>
      obtain ⟨k, hk2, rfl, HA, rfl⟩ := hrel
      by_cases hlt : k < 2
      · have hlt' : ((k : Int) < (2 : Int)) := by omega
        obtain ⟨b1, o1, x, hb1, _, hx, c1⟩ := Hri.out.at_ hlt
        injection hb1 with hb1; injection hb1 with hb1 hb2; subst hb1; subst hb2
        have Hst : Hid (((x == a) && allEq a ([a, b].drop (k + 1))) = allEq a [a, b]) := hide (by rw [← HA.out, drop_at hx, allEq])
        clear hx HA
        by_cases he : x = a
        · have heb : (x != a) = false := by simp [he]
          have Hs2 : Hid (allEq a ([a, b].drop (k + 1)) = allEq a [a, b]) := hide (by rw [← Hst.out]; simp [he])
          clear he Hst
          go_wp2_with fail
          go_roundw
          case rel => exact ⟨k + 1, by omega, by go_num, Hs2, by first | rfl | trivial⟩
          case measure => simp [intOf]; omega
        · have heb : (x != a) = true := by simp [he]
          have Hf : Hid (tyN lv 9 nn ([a, b]) = (0, 4)) := hide (by rw [Hr.out, ← Hst.out]; simp [he])
          clear he Hst
          go_wp2_with fail
          go_ret2
          exact ⟨ret_pair Hf.out, Below.refl _ _⟩
      · have hlt' : ¬ ((k : Int) < (2 : Int)) := by omega
        have Hf : Hid (tyN lv 9 nn ([a, b]) = (1, 0)) := hide (by
          rw [Hr.out, ← HA.out, List.drop_of_length_le (by first | (rw [Hri.out.1]; omega) | (simp; omega))]; simp [allEq])
        clear HA
        go_wp2_with fail
        go_ret2
        exact ⟨ret_pair Hf.out, Below.refl _ _⟩
  · simp [kidsOf] at hk
    obtain rfl : n = 3 := by omega
    rcases xs with _ | ⟨a, _ | ⟨b, _ | ⟨d, _ | ⟨f, r⟩⟩⟩⟩ <;> simp at hxl
    obtain ⟨b0, o0, x0, rfl, _, hx0, c0⟩ := Hri.out.at_ (k := 0) (by omega)
    simp at hx0
    subst hx0
    obtain ⟨b1, o1, x1, e1, _, hx1, c1⟩ := Hri.out.at_ (k := 1) (by omega)
    simp at hx1
    subst hx1
    injection e1 with e1; injection e1 with e1 e2; subst e1; subst e2
    rw [Nat.add_zero] at c0
    clear ho1 ho2 h3 h4 hk
    by_cases ha : a = 1
    · have hab : (a != 1) = false := by simp [ha]
      have Hr : Hid (tyN lv 15 nn [a, b, d] = if allEq b [b, d] = true then (b, 0) else (0, 4)) := hide (by by_cases h : b = d <;> simp [tyN, allEq, List.getD, ha, h] <;> omega)
      clear ha
      have Hrt := hide (ri_tail Hri.out)
      go_enter Try.func38, Try.ntmps38
      go_wp2_with fail
      go_quiet (fail)
      go_wp2_with fail
      go_loopw [40] (fun i wr => ∃ k : Nat, k ≤ 2 ∧ i = .int .i64 k ∧ Hid (allEq b ([b, d].drop k) = allEq b [b, d]) ∧ Below w.heap.size w wr) (fun i _ => 2 - (intOf i).toNat)
      case atStart => exact ⟨0, by omega, rfl, hide rfl, below_drewN (Below.refl _ _) _⟩
      case round =>
        obtain ⟨k, hk2, rfl, HA, hbw⟩ := hrel
        by_cases hlt : k < 2
        · have hlt' : ((k : Int) < (2 : Int)) := by omega
          obtain ⟨b1, o1, x, hb1, _, hx, c1⟩ := (Hrt.out.below (hbw.mono hB)).at_ hlt
          injection hb1 with hb1; injection hb1 with hb1 hb2; subst hb1; subst hb2
          have Hst : Hid (((x == b) && allEq b ([b, d].drop (k + 1))) = allEq b [b, d]) := hide (by rw [← HA.out, drop_at hx, allEq])
          clear hx HA
          by_cases he : x = b
          · have heb : (x != b) = false := by simp [he]
            have Hs2 : Hid (allEq b ([b, d].drop (k + 1)) = allEq b [b, d]) := hide (by rw [← Hst.out]; simp [he])
            clear he Hst
            go_wp2_with fail
            go_roundw
            case rel => exact ⟨k + 1, by omega, by go_num, Hs2, hbw⟩
            case measure => simp [intOf]; omega
          · have heb : (x != b) = true := by simp [he]
            have Hf : Hid (tyN lv 15 nn ([a, b, d]) = (0, 4)) := hide (by rw [Hr.out, ← Hst.out]; simp [he])
            clear he Hst
            go_wp2_with fail
            go_ret2
            exact ⟨ret_pair Hf.out, hbw⟩
        · have hlt' : ¬ ((k : Int) < (2 : Int)) := by omega
          have Hf : Hid (tyN lv 15 nn ([a, b, d]) = (b, 0)) := hide (by
            rw [Hr.out, ← HA.out, List.drop_of_length_le (by first | (rw [Hrt.out.1]; omega) | (simp; omega))]; simp [allEq])
          clear HA
          go_wp2_with fail
          go_ret2
          exact ⟨ret_pair Hf.out, hbw⟩
    · have hab : (a != 1) = true := by simp [ha]
      have Hf : Hid (tyN lv 15 nn [a, b, d] = (0, 4)) := hide (by simp [tyN, List.getD, ha])
      clear ha
      go_enter Try.func38, Try.ntmps38
      go_wp2_with fail
      go_ret2
      exact ⟨ret_pair Hf.out, Below.refl _ _⟩
end Go.Proofs.Ytdjllpejonfpgaa
