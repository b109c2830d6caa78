/- The walks of the reference's Size, Find, product. The walk of the reference's Name. The walk of the reference's MayVars. The walk of the reference's Total. The walk of the reference's Values. -/
import Derived.Test.YtbppdalfcldodaaGreatGNum
import Derived.Deep.AppendLies
import Derived.OwnWalk
namespace Go.Proofs.YtbppdalfcldodaaGreat.Dom
open Go.RowKit Go.WideMaps Go.Maps
set_option linter.unusedSimpArgs false
set_option linter.unusedVariables false

set_option maxHeartbeats 400000 in
theorem rsize_ex (nm : ByteArray) (env : Bool) (s lo hi : Int) (w : World) : Calls Tryz.prog 72 #[.agg #[.string nm, .bool env, .int .i64 s, .int .i64 lo, .int .i64 hi]] w fun e w' => e = .returned (.int .i64 (sizeOfV s lo hi)) ∧ w.alloc (.cells #[.string nm, .bool env, .int .i64 s, .int .i64 lo, .int .i64 hi] 103) = w' := by
  by_cases h1 : s = 1
  · have hv : sizeOfV s lo hi = 2 := by simp [sizeOfV, h1]
    rw [hv]; clear hv
    have hb : (s == 1) = true := by simp [h1]
    clear h1
    go_enter Tryz.func72, Tryz.ntmps72
    go_wp2
    go_ret
    exact ⟨rfl, rfl⟩
  · have hb : (s == 1) = false := by simp [h1]
    by_cases h2 : s = 2
    · have hb2 : (s == 2) = true := by simp [h2]
      cases hr : rangeB lo hi
      · have hv : sizeOfV s lo hi = 0 := by simp [sizeOfV, h1, hr]
        rw [hv]; clear hv h1 h2
        have hno := range_false hr
        clear hr
        by_cases k1 : -1000 ≤ lo <;> by_cases k2 : lo ≤ hi <;> by_cases k3 : hi ≤ 1000
        all_goals first
          | (exfalso; omega)
          | (clear hno
             go_enter Tryz.func72, Tryz.ntmps72
             go_wp2
             go_ret
             exact ⟨rfl, rfl⟩)
      · have hv : sizeOfV s lo hi = hi - lo + 1 := by simp [sizeOfV, h1, h2, hr]
        rw [hv]; clear hv h1 h2
        obtain ⟨b1, b2, b3⟩ := range_true hr
        clear hr
        go_enter Tryz.func72, Tryz.ntmps72
        go_wp2
        go_ret
        exact ⟨rfl, rfl⟩
    · have hb2 : (s == 2) = false := by simp [h2]
      have hv : sizeOfV s lo hi = 0 := by simp [sizeOfV, h1, h2]
      rw [hv]; clear hv h1 h2
      go_enter Tryz.func72, Tryz.ntmps72
      go_wp2_with fail
      go_ret
      exact ⟨rfl, rfl⟩
theorem rsize_any (nm : ByteArray) (env : Bool) (s lo hi : Int) (w : World) : Calls Tryz.prog 72 #[.agg #[.string nm, .bool env, .int .i64 s, .int .i64 lo, .int .i64 hi]] w fun e w' => e = .returned (.int .i64 (sizeOfV s lo hi)) ∧ Below w.heap.size w w' :=
  (rsize_ex nm env s lo hi w).mono fun e w' ⟨he, hw⟩ => ⟨he, by rw [← hw]; exact (Below.refl _ _).alloc (Nat.le_refl _) _⟩

set_option maxHeartbeats 400000 in
theorem rfind_any (A : Option Addr) (n c B : Nat) (l : List V) (s : ByteArray) (w : World) (hm : n ≤ maxLen) (hB : B ≤ w.heap.size) (hv : RV w B A n l) : Calls Tryz.prog 88 #[.slice A n c, .string s] w fun e w' => e = .returned (.int .i64 (findGo s.toList 0 l)) ∧ Below w.heap.size w w' := by
  have Hn := hide hv.1
  unfold maxLen at hm
  have Hv := hide hv; clear hv
  go_enter Tryz.func88, Tryz.ntmps88
  go_wp2_with fail
  go_loopw [9] (fun i wr => ∃ (k : Nat), k ≤ n ∧ i = .int .i64 k ∧ Hid (findGo s.toList k (l.drop k) = findGo s.toList 0 l) ∧ Below w.heap.size w wr) (fun i _ => n - (intOf i).toNat)
  case atStart => exact ⟨0, Nat.zero_le _, rfl, hide rfl, Below.refl _ _⟩
  case round =>
    obtain ⟨k, hk, rfl, HT, hb⟩ := hrel
    by_cases hlt : k < n
    · have hlt' : ((k : Int) < (n : Int)) := by omega
      obtain ⟨b, off, v, rfl, hbB, hlk, c0, c1, c2, c3, c4⟩ := (Hv.out.below (hb.mono hB)).at_ hlt
      have Hst : Hid ((if v.nm.toList == s.toList then (k : Int) else findGo s.toList (k + 1) (l.drop (k + 1))) = findGo s.toList 0 l) := hide (by rw [← HT.out, drop_at hlk, findGo])
      clear hlk
      have hsz := hb.size
      cases he : v.nm.toList == s.toList
      · have Hon : Hid (findGo s.toList (k + 1) (l.drop (k + 1)) = findGo s.toList 0 l) := hide (by rw [← Hst.out, he]; rfl)
        go_wp2_with fail
        go_roundw
        case rel => exact ⟨k + 1, by omega, by go_num, Hon, hb.alloc hsz _⟩
        case measure => simp [intOf]; omega
      · have Hfin : Hid (findGo s.toList 0 l = (k : Int)) := hide (by rw [← Hst.out, he]; rfl)
        go_wp2_with fail
        go_ret
        exact ⟨ret_int Hfin.out.symm, hb.alloc hsz _⟩
    · have hlt' : ¬ ((k : Int) < (n : Int)) := by omega
      have Hfin : Hid (findGo s.toList 0 l = -1) := hide (by rw [← HT.out, List.drop_of_length_le (by rw [Hn.out]; omega), findGo])
      go_wp2_with fail
      go_ret
      exact ⟨ret_int Hfin.out.symm, hb⟩

def pmGo (t : Int) : List V → Int
  | [] => t
  | v :: r => pmGo (if 513 < t * v.size then 513 else t * v.size) r

set_option maxHeartbeats 400000 in
theorem rprod_any (A : Option Addr) (n c B : Nat) (l : List V) (w : World) (hm : n ≤ maxLen) (hB : B ≤ w.heap.size) (hv : RV w B A n l) : Calls Tryz.prog 71 #[.slice A n c] w fun e w' => e = .returned (.int .i64 (pmGo 1 l)) ∧ Below w.heap.size w w' := by
  have Hn := hide hv.1
  unfold maxLen at hm
  have Hv := hide hv; clear hv
  go_enter Tryz.func71, Tryz.ntmps71
  go_wp2_with fail
  go_loopw [3, 8] (fun t i wr => ∃ (k : Nat) (p : Int), k ≤ n ∧ i = .int .i64 k ∧ t = .int .i64 p ∧ 0 ≤ p ∧ p ≤ 513 ∧ Hid (pmGo p (l.drop k) = pmGo 1 l) ∧ Below w.heap.size w wr) (fun _ i _ => n - (intOf i).toNat)
  case atStart => exact ⟨0, 1, Nat.zero_le _, rfl, rfl, by omega, by omega, hide rfl, Below.refl _ _⟩
  case round =>
    obtain ⟨k, p, hk, rfl, rfl, hp1, hp2, HT, hb⟩ := hrel
    by_cases hlt : k < n
    · have hlt' : ((k : Int) < (n : Int)) := by omega
      obtain ⟨b, off, v, rfl, hbB, hlk, c0, c1, c2, c3, c4⟩ := (Hv.out.below (hb.mono hB)).at_ hlt
      have Hst : Hid (pmGo (if 513 < p * v.size then 513 else p * v.size) (l.drop (k + 1)) = pmGo 1 l) := hide (by rw [← HT.out, drop_at hlk, pmGo])
      clear hlk
      have hsz := hb.size
      obtain ⟨sz1, sz2⟩ := size_bd v.srt v.lo v.hi
      go_wp2_with fail
      refine (rsize_any _ _ _ _ _ _).mono ?_
      rintro e w1 ⟨rfl, hb1⟩
      have hbw1 := below_box hb (Nat.le_refl _) hb1
      clear c0 c1 c2 c3 c4 hb1
      generalize hs : sizeOfV v.srt v.lo v.hi = z at *
      have Hs : Hid (v.size = z) := hide hs
      clear hs
      rw [Hs.out] at Hst
      have q1 : 0 ≤ p * z := Int.mul_nonneg hp1 sz1
      have q2 : p * z ≤ 513 * 2001 := Int.mul_le_mul hp2 sz2 (by omega) (by omega)
      have qm1 : 0 ≤ (if 513 < p * z then 513 else p * z) := by split <;> omega
      have qm2 : (if 513 < p * z then 513 else p * z) ≤ 513 := by split <;> omega
      go_wp2_with fail
      go_roundw
      case rel => exact ⟨k + 1, _, by omega, by go_num, rfl, qm1, qm2, Hst, hbw1⟩
      case measure => simp [intOf]; omega
    · have Hfin : Hid (pmGo 1 l = p) := hide (by rw [← HT.out, List.drop_of_length_le (by rw [Hn.out]; omega), pmGo])
      have hlt' : ¬ ((k : Int) < (n : Int)) := by omega
      go_wp2_with fail
      go_ret
      exact ⟨ret_int Hfin.out.symm, hb⟩
end Go.Proofs.YtbppdalfcldodaaGreat.Dom
namespace Go.Proofs.YtbppdalfcldodaaGreat.Dom
open Go.RowKit Go.WideMaps Go.Maps
set_option linter.unusedSimpArgs false
set_option linter.unusedVariables false

def wordsA : Array Value := #[.string ⟨#[98, 111, 111, 108]⟩, .string ⟨#[105, 110, 116]⟩, .string ⟨#[101, 110, 118]⟩, .string ⟨#[115, 121, 115]⟩, .string ⟨#[105, 110, 105, 116]⟩, .string ⟨#[119, 104, 101, 110]⟩, .string ⟨#[97, 115, 115, 117, 109, 101]⟩,
  .string ⟨#[101, 110, 115, 117, 114, 101]⟩, .string ⟨#[112, 114, 105, 111]⟩, .string ⟨#[97, 110, 121]⟩, .string ⟨#[116, 114, 117, 101]⟩, .string ⟨#[102, 97, 108, 115, 101]⟩, .string ⟨#[105, 102]⟩, .string ⟨#[116, 104, 101, 110]⟩, .string ⟨#[101, 108, 115, 101]⟩,
  .string ⟨#[110, 111, 116]⟩, .string ⟨#[97, 110, 100]⟩, .string ⟨#[111, 114]⟩]
def wordsL : List (List UInt8) := [[98, 111, 111, 108], [105, 110, 116], [101, 110, 118], [115, 121, 115], [105, 110, 105, 116], [119, 104, 101, 110], [97, 115, 115, 117, 109, 101], [101, 110, 115, 117, 114, 101], [112, 114, 105, 111], [97, 110, 121], [116, 114, 117, 101], [102, 97, 108, 115, 101], [105, 102], [116, 104, 101, 110], [101, 108, 115, 101], [110, 111, 116], [97, 110, 100], [111, 114]]
def wordAt (k : Nat) : ByteArray := ⟨(wordsL.getD k []).toArray⟩
theorem words_idx (k : Nat) (hk : k < 18) (w : World) : (Instr.index 146 (.agg wordsA) (.int .i64 (k : Int))).run Tryz.prog w = .ok (.string (wordAt k)) w := by
  have h : k = 0 ∨ k = 1 ∨ k = 2 ∨ k = 3 ∨ k = 4 ∨ k = 5 ∨ k = 6 ∨ k = 7 ∨ k = 8 ∨ k = 9 ∨ k = 10 ∨ k = 11 ∨ k = 12 ∨ k = 13 ∨ k = 14 ∨ k = 15 ∨ k = 16 ∨ k = 17 := by omega
  rcases h with rfl | rfl | rfl | rfl | rfl | rfl | rfl | rfl | rfl | rfl | rfl | rfl | rfl | rfl | rfl | rfl | rfl | rfl
  all_goals exact (show Sem.run Tryz.prog _ w = _ by kernel_rfl)
theorem res_words (b : List UInt8) : resB b = wordsL.contains b := by
  simp only [resB, wordsL, List.contains_cons, List.contains_nil, Bool.or_false, Bool.or_assoc]
theorem wordAt_list (k : Nat) : (wordAt k).toList = wordsL.getD k [] := by rw [ByteArray.toList_eq]; rfl
theorem word_hit {b : List UInt8} {k : Nat} (hk : k < 18) (h : (b == (wordAt k).toList) = true) : resB b = true := by
  rw [res_words, List.contains_iff_mem]
  rw [beq_iff_eq, wordAt_list] at h
  have hl : k < wordsL.length := hk
  rw [h, List.getD_eq_getElem?_getD, List.getElem?_eq_getElem hl]
  exact List.getElem_mem hl
theorem word_none {b : List UInt8} (h : ∀ j, j < 18 → (b == (wordAt j).toList) = false) : resB b = false := by
  rw [res_words]
  cases hc : wordsL.contains b
  · rfl
  · rw [List.contains_iff_mem] at hc
    obtain ⟨j, hj, e⟩ := List.mem_iff_getElem.1 hc
    have := h j hj
    rw [wordAt_list, List.getD_eq_getElem?_getD, List.getElem?_eq_getElem hj] at this
    simp [e] at this
theorem ok_yes {c : UInt8} (h : (97 ≤ (c.toNat : Int) ∧ (c.toNat : Int) ≤ 122) ∨ (48 ≤ (c.toNat : Int) ∧ (c.toNat : Int) ≤ 57) ∨ (c.toNat : Int) = 95) : okB c = true := by
  rcases h with h | h | h
  · simp [okB, letterB, h]
  · simp [okB, digitB, h]
  · have : c = 95 := UInt8.toNat_inj.1 (by show c.toNat = 95; omega)
    simp [okB, this]
theorem ok_no {c : UInt8} (h : ¬ (97 ≤ (c.toNat : Int) ∧ (c.toNat : Int) ≤ 122) ∧ ¬ (48 ≤ (c.toNat : Int) ∧ (c.toNat : Int) ≤ 57) ∧ (c.toNat : Int) ≠ 95) : okB c = false := by
  obtain ⟨h1, h2, h3⟩ := h
  exact okB_false (by simp [letterB, h1]) (by simp [digitB, h2]) (by simp [h3])
set_option maxRecDepth 100000 in
set_option maxHeartbeats 1000000 in
theorem rname_any (s : ByteArray) (w : World) (hm : s.size ≤ maxLen) : Calls Tryz.prog 87 #[.string s] w fun e w' => e = .returned (.bool (nameB s)) ∧ w = w' := by
  unfold maxLen at hm
  by_cases h1 : s.size < 1
  · rw [name_no1 h1]
    have h1' : decide ((s.size : Int) < 1) = true := by simp; omega
    go_enter Tryz.func87, Tryz.ntmps87
    go_wp2_with fail
    go_ret
    exact ⟨rfl, rfl⟩
  · have h1' : decide ((s.size : Int) < 1) = false := by simp; omega
    by_cases h2 : 16 < s.size
    · rw [name_no2 h2]
      have h2' : decide ((16 : Int) < (s.size : Int)) = true := by simp; omega
      go_enter Tryz.func87, Tryz.ntmps87
      go_wp2_with fail
      go_ret
      exact ⟨rfl, rfl⟩
    · have h2' : decide ((16 : Int) < (s.size : Int)) = false := by simp; omega
      have h0 : 0 < s.size := by omega
      by_cases k1 : (s[0].toNat : Int) < 97
      · have k1b : decide ((s[0].toNat : Int) < 97) = true := by simp [k1]
        rw [name_no3 h0 (by simp [letterB]; omega)]
        go_enter Tryz.func87, Tryz.ntmps87
        go_wp2_with fail
        go_ret
        exact ⟨rfl, rfl⟩
      · have k1b : decide ((s[0].toNat : Int) < 97) = false := by simp; omega
        by_cases k2 : (122 : Int) < (s[0].toNat : Int)
        · have k2b : decide ((122 : Int) < (s[0].toNat : Int)) = true := by simp [k2]
          rw [name_no3 h0 (by simp [letterB]; omega)]
          go_enter Tryz.func87, Tryz.ntmps87
          go_wp2_with fail
          go_ret
          exact ⟨rfl, rfl⟩
        · have k2b : decide ((122 : Int) < (s[0].toNat : Int)) = false := by simp; omega
          have Hl : Hid (letterB (s[0].toNat : Int) = true) := hide (by simp [letterB]; omega)
          go_enter Tryz.func87, Tryz.ntmps87
          go_wp2_with fail
          go_loop [27] (fun i => ∃ k : Nat, k ≤ s.size ∧ i = .int .i64 k ∧ Hid ((s.data.toList.take k).all okB = true)) (fun i => s.size - (intOf i).toNat)
          case atStart => exact ⟨0, Nat.zero_le _, rfl, hide (by simp)⟩
          case round =>
            obtain ⟨k, hk, rfl, HA⟩ := hrel
            by_cases hlt : k < s.size
            · have hlt' : (k : Int) < (s.size : Int) := by omega
              by_cases hcond : (97 ≤ (s[k].toNat : Int) ∧ (s[k].toNat : Int) ≤ 122) ∨ (48 ≤ (s[k].toNat : Int) ∧ (s[k].toNat : Int) ≤ 57) ∨ (s[k].toNat : Int) = 95
              · have Hok : Hid ((s.data.toList.take (k + 1)).all okB = true) := hide (all_snoc hlt HA.out (ok_yes hcond))
                by_cases a1 : (s[k].toNat : Int) < 97 <;> by_cases a2 : (122 : Int) < (s[k].toNat : Int) <;> by_cases a3 : (s[k].toNat : Int) < 48 <;> by_cases a4 : (57 : Int) < (s[k].toNat : Int) <;> cases a5 : ((s[k].toNat : Int) != 95)
                all_goals first
                  | (exfalso; simp at a5; omega)
                  | (clear hcond
                     go_wp2_with fail
                     go_round
                     case rel => exact ⟨k + 1, by omega, by go_num, Hok⟩
                     case measure => simp [intOf]; omega)
              · have Hno : Hid (nameB s = false) := hide (name_no4 hlt (ok_no (by omega)))
                by_cases a1 : (s[k].toNat : Int) < 97 <;> by_cases a2 : (122 : Int) < (s[k].toNat : Int) <;> by_cases a3 : (s[k].toNat : Int) < 48 <;> by_cases a4 : (57 : Int) < (s[k].toNat : Int) <;> cases a5 : ((s[k].toNat : Int) != 95)
                all_goals first
                  | (exfalso; simp at a5; omega)
                  | (clear hcond
                     go_wp2_with fail
                     go_ret
                     exact ⟨ret_bool Hno.out.symm, rfl⟩)
            · have hlt' : ¬ (k : Int) < (s.size : Int) := by omega
              obtain rfl : k = s.size := by omega
              have Hn := hide (name_yes (by omega) (by omega) Hl.out HA.out)
              go_wp2_with fail
              go_loop [53] (fun i => ∃ k : Nat, k ≤ 18 ∧ i = .int .i64 k ∧ Hid (∀ j, j < k → (s.toList == (wordAt j).toList) = false)) (fun i => 18 - (intOf i).toNat)
              case atStart => exact ⟨0, Nat.zero_le _, rfl, hide (fun j hj => absurd hj (by omega))⟩
              case round =>
                obtain ⟨k, hk2, rfl, HW⟩ := hrel
                by_cases hlt2 : k < 18
                · have hlt2' : (k : Int) < 18 := by omega
                  have hix := words_idx k hlt2
                  unfold wordsA at hix
                  cases he : s.toList == (wordAt k).toList
                  · have HW2 : Hid (∀ j, j < k + 1 → (s.toList == (wordAt j).toList) = false) := hide (fun j hj => by
                      rcases Nat.lt_or_ge j k with h | h
                      · exact HW.out j h
                      · obtain rfl : j = k := by omega
                        exact he)
                    generalize wordAt k = wk at *
                    go_wp2_with fail
                    go_round
                    case rel => exact ⟨k + 1, by omega, by go_num, HW2⟩
                    case measure => simp [intOf]; omega
                  · have Hfin : Hid (nameB s = false) := hide (by rw [Hn.out, word_hit hlt2 he]; rfl)
                    generalize wordAt k = wk at *
                    go_wp2_with fail
                    go_ret
                    exact ⟨ret_bool Hfin.out.symm, rfl⟩
                · have hlt2' : ¬ (k : Int) < 18 := by omega
                  have Hfin : Hid (nameB s = true) := hide (by rw [Hn.out, word_none (fun j hj => HW.out j (by omega))]; rfl)
                  go_wp2_with fail
                  go_ret
                  exact ⟨ret_bool Hfin.out.symm, rfl⟩
end Go.Proofs.YtbppdalfcldodaaGreat.Dom
namespace Go.Proofs.YtbppdalfcldodaaGreat.Dom
open Go.RowKit Go.WideMaps Go.Maps
set_option linter.unusedSimpArgs false
set_option linter.unusedVariables false

theorem find_mem (nm : List UInt8) : ∀ (l : List V) (i : Nat), 0 ≤ findGo nm i l ↔ ∃ v ∈ l, (v.nm.toList == nm) = true
  | [], i => by simp [findGo]
  | v :: r, i => by
    rw [findGo]
    split
    · rename_i h
      exact ⟨fun _ => ⟨v, by simp, h⟩, fun _ => by omega⟩
    · rename_i h
      rw [find_mem nm r (i + 1)]
      constructor
      · rintro ⟨u, hu, e⟩; exact ⟨u, by simp [hu], e⟩
      · rintro ⟨u, hu, e⟩
        rcases List.mem_cons.1 hu with rfl | hu
        · exact absurd e h
        · exact ⟨u, hu, e⟩
theorem key_eq (u v : V) : ((u.nm.toList == v.nm.toList) = true) ↔ u.key = v.key := by
  rw [beq_iff_eq, ByteArray.toList_eq, ByteArray.toList_eq]; rfl
theorem find_names {l : List V} {k : Nat} {v : V} : 0 ≤ findGo v.nm.toList 0 (l.take k) ↔ v.key ∈ namesTo l k := by
  rw [find_mem]
  unfold namesTo
  constructor
  · rintro ⟨u, hu, e⟩
    rw [List.mem_map]; exact ⟨u, hu, (key_eq u v).1 e⟩
  · intro h
    obtain ⟨u, hu, e⟩ := List.mem_map.1 h
    exact ⟨u, hu, (key_eq u v).2 e⟩
theorem names_of {l : List V} {k : Nat} {v : V} (h : ∀ j u, j < k → l[j]? = some u → (u.nm.toList == v.nm.toList) = false) : v.key ∉ namesTo l k := by
  intro hm
  obtain ⟨u, hu, e⟩ := List.mem_map.1 hm
  obtain ⟨j, hj, e2⟩ := List.mem_iff_getElem.1 hu
  have hjk : j < k := by simp at hj; omega
  have hjl : j < l.length := by simp at hj; omega
  have e3 : l[j]? = some u := by rw [List.getElem?_eq_getElem hjl, ← e2, List.getElem_take]
  have := h j u hjk e3
  rw [(key_eq u v).2 e] at this; cases this
theorem names_hit {l : List V} {j k : Nat} {u v : V} (hj : j < k) (h : l[j]? = some u) (e : (u.nm.toList == v.nm.toList) = true) : v.key ∈ namesTo l k := by
  unfold namesTo
  rw [List.mem_map]
  obtain ⟨hl, e1⟩ := List.getElem?_eq_some_iff.1 h
  exact ⟨u, by rw [← e1]; exact List.mem_iff_getElem.2 ⟨j, by simp; omega, by rw [List.getElem_take]⟩, (key_eq u v).1 e⟩
theorem RV.take {w : World} {B n k : Nat} {A : Option Addr} {l : List V} (h : RV w B A n l) (hk : k ≤ n) : RV w B A k (l.take k) :=
  ⟨by have := h.1; simp; omega, fun h0 => by
    obtain ⟨b, off, e, hb, hc⟩ := h.2 (by omega)
    refine ⟨b, off, e, hb, fun j v hv => hc j v ?_⟩
    rw [List.getElem?_take] at hv
    split at hv
    · exact hv
    · cases hv⟩
theorem pm_all : ∀ (l : List V) (t : Int), (∀ v ∈ l, v.may = 0) → 1 ≤ t → t ≤ 513 → pmGo t l = if 513 < t * prodV l then 513 else t * prodV l
  | [], t, _, h1, h2 => by rw [pmGo, prodV, Int.mul_one, if_neg (by omega)]
  | v :: r, t, h, h1, h2 => by
    have hs : 1 ≤ v.size := size_pos (h v (by simp))
    have hp := prodV_pos r (fun u hu => h u (by simp [hu]))
    have hts : 1 ≤ t * v.size := by have := Int.mul_le_mul h1 hs (by omega) (by omega); omega
    rw [pmGo, prodV, ← Int.mul_assoc]
    by_cases hc : 513 < t * v.size
    · rw [if_pos hc, pm_all r 513 (fun u hu => h u (by simp [hu])) (by omega) (by omega)]
      have h3 : t * v.size ≤ t * v.size * prodV r := by have := Int.mul_le_mul (Int.le_refl (t * v.size)) hp (by omega) (by omega); omega
      rw [if_pos (show 513 < t * v.size * prodV r by omega)]
      split
      · rfl
      · omega
    · rw [if_neg hc, pm_all r _ (fun u hu => h u (by simp [hu])) hts (by omega)]
theorem tot_all : ∀ (l : List V) (t : Int), (∀ v ∈ l, v.may = 0) → 1 ≤ t → t ≤ 512 → totGo t l = if 512 < t * prodV l then 0 else t * prodV l
  | [], t, _, h1, h2 => by rw [totGo, prodV, Int.mul_one, if_neg (by omega)]
  | v :: r, t, h, h1, h2 => by
    have hs : 1 ≤ v.size := size_pos (h v (by simp))
    have hp := prodV_pos r (fun u hu => h u (by simp [hu]))
    have hts : 1 ≤ t * v.size := by have := Int.mul_le_mul h1 hs (by omega) (by omega); omega
    rw [totGo, prodV, ← Int.mul_assoc, if_neg (by simp [h v (by simp)])]
    by_cases hc : 512 < t * v.size
    · have h3 : t * v.size ≤ t * v.size * prodV r := by have := Int.mul_le_mul (Int.le_refl (t * v.size)) hp (by omega) (by omega); omega
      rw [if_pos hc, if_pos (by omega)]
    · rw [if_neg hc, tot_all r _ (fun u hu => h u (by simp [hu])) hts (by omega)]
theorem tot_zero {l : List V} (h : ∀ v ∈ l, v.may = 0) : totL l = 0 ↔ (6 < l.length ∨ 512 < pmGo 1 l) := by
  have hp := prodV_pos l h
  unfold totL
  rw [pm_all l 1 h (by omega) (by omega)]
  by_cases h6 : 6 < l.length
  · simp [h6]
  · rw [if_neg h6, tot_all l 1 h (by omega) (by omega), Int.one_mul]
    split <;> split <;> omega
theorem tot_pm {l : List V} (h : ∀ v ∈ l, v.may = 0) (h6 : ¬ 6 < l.length) (h5 : ¬ 512 < pmGo 1 l) : totL l = pmGo 1 l := by
  have hp := prodV_pos l h
  unfold totL
  rw [pm_all l 1 h (by omega) (by omega)] at h5 ⊢
  rw [if_neg h6, tot_all l 1 h (by omega) (by omega), Int.one_mul] at *
  split at h5
  · omega
  · rw [if_neg (by omega), if_neg (by omega)]

set_option maxRecDepth 100000 in
set_option maxHeartbeats 1000000 in
theorem rmay_any (A : Option Addr) (n c B : Nat) (l : List V) (w : World) (hm : n ≤ maxLen) (hnc : n ≤ c) (hc : c ≤ maxLen) (hB : B ≤ w.heap.size) (hv : RV w B A n l) (hnm : ∀ v ∈ l, v.nm.size ≤ maxLen) : Calls Tryz.prog 52 #[.slice A n c] w fun e w' => e = .returned (.int .i64 (mayL l)) ∧ Below w.heap.size w w' := by
  have Hm := hide hm
  have Hn := hide hv.1
  have Hnm := hide hnm; clear hnm
  unfold maxLen at hm hc
  have Hv := hide hv; clear hv
  go_enter Tryz.func52, Tryz.ntmps52
  go_wp2_with fail
  go_loopw [9] (fun i wr => ∃ (k : Nat), k ≤ n ∧ i = .int .i64 k ∧ Hid (mayGo (namesTo l k) (l.drop k) = mayGo [] l) ∧ Below w.heap.size w wr) (fun i _ => n - (intOf i).toNat)
  case atStart => exact ⟨0, Nat.zero_le _, rfl, hide rfl, Below.refl _ _⟩
  case round =>
    obtain ⟨k, hk, rfl, HT, hb⟩ := hrel
    by_cases hlt : k < n
    · have hlt' : ((k : Int) < (n : Int)) := by omega
      obtain ⟨b, off, v, rfl, hbB, hlk, c0, c1, c2, c3, c4⟩ := (Hv.out.below (hb.mono hB)).at_ hlt
      have Hlk := hide hlk
      have hvl : v.nm.size ≤ maxLen := Hnm.out v (List.mem_of_getElem? hlk)
      clear hlk
      have hsz := hb.size
      have hk0 : (0 : Int) ≤ (k : Int) := by omega
      have hkc : (k : Int) ≤ (c : Int) := by omega
      have hkc2 : k ≤ c := by omega
      go_wp2_with fail
      clear c0 c1 c2 c3 c4
      have hbox := box_new wr v 103
      have hbx : Below w.heap.size w (wr.alloc (.cells #[.string v.nm, .bool v.env, .int .i64 v.srt, .int .i64 v.lo, .int .i64 v.hi] 103)) := hb.alloc hsz _
      have hbz : (wr.alloc (.cells #[.string v.nm, .bool v.env, .int .i64 v.srt, .int .i64 v.lo, .int .i64 v.hi] 103)).heap.size = wr.heap.size + 1 := by simp
      generalize wr.alloc (.cells #[.string v.nm, .bool v.env, .int .i64 v.srt, .int .i64 v.lo, .int .i64 v.hi] 103) = w2 at *
      have hbz2 : w.heap.size ≤ w2.heap.size := by omega
      have hbz3 : wr.heap.size < w2.heap.size := by omega
      generalize wr.heap.size = bx at *
      clear hbz
      have Hv2 := hide (Hv.out.below (hbx.mono hB))
      have Hbx := hide hbx
      have Hbox := hide hbox
      clear hbx hb hbox
      obtain ⟨d0, d1, d2, d3, d4⟩ := Hbox.out
      cases hN : nameB v.nm
      · have Hfin : Hid (mayL l = 3) := hide (by unfold mayL; rw [HT.out.symm.trans (mayGo_name Hlk.out (.inl hN))]; rfl)
        have HN := hide hN; clear hN
        go_quiet ((go_at_call 87; exact Calls.quiet_of_same ((rname_any v.nm _ hvl).mono (fun e w' h => ⟨by rw [h.1, HN.out], h.2.symm⟩))))
        go_wp2_with fail
        go_ret
        exact ⟨ret_int Hfin.out.symm, below_drewN Hbx.out _⟩
      · have HN := hide hN; clear hN
        by_cases hk6 : k < 6
        · have hk6b : decide ((k : Int) < 6) = true := by simp; omega
          have hk6c : decide ((6 : Int) ≤ (k : Int)) = false := by simp; omega
          have HF := hide (find_names (l := l) (k := k) (v := v))
          generalize hf : findGo v.nm.toList 0 (l.take k) = f at *
          have Hf := hide hf; clear hf
          by_cases hf0 : 0 ≤ f
          · have hf0b : decide (0 ≤ f) = true := by simp [hf0]
            have Hfin : Hid (mayL l = 3) := hide (by unfold mayL; rw [HT.out.symm.trans (mayGo_name Hlk.out (.inr (HF.out.1 hf0)))]; rfl)
            go_region_held3 (fun w' => w'.cell? ⟨bx, 0, none⟩ = some (.string v.nm))
              (first | go_keep | exact (hb3.cell (by exact hbz3)).trans d0)
              (first | (go_at_call 87; refine (rname_any v.nm _ hvl).mono ?_; rintro e w' ⟨rfl, rfl⟩; rw [HN.out]) | (go_at_call 88; refine (rfind_any (some ⟨b, off, none⟩) k c B (l.take k) v.nm _ (by unfold maxLen; omega) (by exact Nat.le_trans hB hbz2) (by exact Hv2.out.take hk)).mono ?_; rintro e w3 ⟨rfl, hb3⟩; rw [Hf.out]))
            have hbw3 : Below w.heap.size w w3 := Hbx.out.trans (Below.mono ⟨hb3.os, hb3.tape, hb3.output, hb3.size, hb3.block⟩ hbz2)
            have hbz4 : w2.heap.size ≤ w3.heap.size := hb3.size
            obtain ⟨d0, d1, d2, d3, d4⟩ := Hbox.out.below (Below.mono ⟨hb3.os, hb3.tape, hb3.output, hb3.size, hb3.block⟩ (Nat.le_refl w2.heap.size)) hbz3
            clear hb3
            go_wp2_with fail
            go_ret
            exact ⟨ret_int Hfin.out.symm, hbw3⟩
          · have hf0b : decide (0 ≤ f) = false := by simp [hf0]
            have Hin : Hid (v.key ∉ namesTo l k) := hide (fun h => hf0 (HF.out.2 h))
            go_region_held3 (fun w' => w'.cell? ⟨bx, 0, none⟩ = some (.string v.nm))
              (first | go_keep | exact (hb3.cell (by exact hbz3)).trans d0)
              (first | (go_at_call 87; refine (rname_any v.nm _ hvl).mono ?_; rintro e w' ⟨rfl, rfl⟩; rw [HN.out]) | (go_at_call 88; refine (rfind_any (some ⟨b, off, none⟩) k c B (l.take k) v.nm _ (by unfold maxLen; omega) (by exact Nat.le_trans hB hbz2) (by exact Hv2.out.take hk)).mono ?_; rintro e w3 ⟨rfl, hb3⟩; rw [Hf.out]))
            have hbw3 : Below w.heap.size w w3 := Hbx.out.trans (Below.mono ⟨hb3.os, hb3.tape, hb3.output, hb3.size, hb3.block⟩ hbz2)
            have hbz4 : w2.heap.size ≤ w3.heap.size := hb3.size
            obtain ⟨d0, d1, d2, d3, d4⟩ := Hbox.out.below (Below.mono ⟨hb3.os, hb3.tape, hb3.output, hb3.size, hb3.block⟩ (Nat.le_refl w2.heap.size)) hbz3
            clear hb3
            have HOK : Hid (¬ (nameB v.nm = false ∨ v.key ∈ namesTo l k)) := hide (by rw [HN.out]; simp [Hin.out])
            clear HF Hf hf0b hf0
            by_cases s1 : v.srt = 1
            · have s1b : (v.srt != 1) = false := by simp [s1]
              have s1c : (v.srt == 1) = true := by simp [s1]
              have Hs1 := hide s1; clear s1
              by_cases z1 : v.lo = 0
              · have z1b : (v.lo != 0) = false := by simp [z1]
                by_cases z2 : v.hi = 0
                · have z2b : (v.hi != 0) = false := by simp [z2]
                  have HM0 : Hid (v.may = 0) := hide (by simp [V.may, mayOfV, Hs1.out, z1, z2])
                  have Hsz : Hid ((sizeOfV v.srt v.lo v.hi == 0) = false) := hide (by simp [sizeOfV, Hs1.out])
                  have Hon := hide ((mayGo_on Hlk.out HOK.out HM0.out).symm.trans HT.out)
                  clear z1 z2
                  go_wp2_with fail
                  refine (rsize_any v.nm v.env v.srt v.lo v.hi _).mono ?_
                  rintro e w4 ⟨rfl, hb4⟩
                  have hbw4 := hbw3.trans (hb4.mono hbw3.size)
                  have hszb := Hsz.out
                  clear d0 d1 d2 d3 d4
                  go_wp2_with fail
                  go_roundw
                  case rel => exact ⟨k + 1, by omega, by go_num, Hon, hbw4⟩
                  case measure => simp [intOf]; omega
                · have z2b : (v.hi != 0) = true := by simp [z2]
                  have HM6 : Hid (v.may = 6) := hide (by simp [V.may, mayOfV, Hs1.out, z2])
                  have Hfin : Hid (mayL l = 6) := hide (by unfold mayL; rw [HT.out.symm.trans (mayGo_bad Hlk.out HOK.out (by rw [HM6.out]; decide)), HM6.out]; rfl)
                  clear z1 z2
                  go_wp2_with fail
                  go_ret
                  exact ⟨ret_int Hfin.out.symm, hbw3⟩
              · have z1b : (v.lo != 0) = true := by simp [z1]
                have HM6 : Hid (v.may = 6) := hide (by simp [V.may, mayOfV, Hs1.out, z1])
                have Hfin : Hid (mayL l = 6) := hide (by unfold mayL; rw [HT.out.symm.trans (mayGo_bad Hlk.out HOK.out (by rw [HM6.out]; decide)), HM6.out]; rfl)
                clear z1
                go_wp2_with fail
                go_ret
                exact ⟨ret_int Hfin.out.symm, hbw3⟩
            · have s1b : (v.srt != 1) = true := by simp [s1]
              have s1c : (v.srt == 1) = false := by simp [s1]
              by_cases s2 : v.srt = 2
              · have s2b : (v.srt != 2) = false := by simp [s2]
                cases hr : rangeB v.lo v.hi
                · have HM6 : Hid (v.may = 6) := hide (by simp [V.may, mayOfV, s1, s2, hr])
                  have Hfin : Hid (mayL l = 6) := hide (by unfold mayL; rw [HT.out.symm.trans (mayGo_bad Hlk.out HOK.out (by rw [HM6.out]; decide)), HM6.out]; rfl)
                  have Hsz : Hid ((sizeOfV v.srt v.lo v.hi == 0) = true) := hide (by simp [sizeOfV, s1, hr])
                  clear s1 s2 hr
                  go_wp2_with fail
                  refine (rsize_any v.nm v.env v.srt v.lo v.hi _).mono ?_
                  rintro e w4 ⟨rfl, hb4⟩
                  have hbw4 := hbw3.trans (hb4.mono hbw3.size)
                  have hszb := Hsz.out
                  clear d0 d1 d2 d3 d4
                  go_wp2_with fail
                  go_ret
                  exact ⟨ret_int Hfin.out.symm, hbw4⟩
                · have HM0 : Hid (v.may = 0) := hide (by simp [V.may, mayOfV, s1, s2, hr])
                  have Hsz : Hid ((sizeOfV v.srt v.lo v.hi == 0) = false) := hide (by have := size_pos HM0.out; rw [beq_eq_false_iff_ne]; omega)
                  have Hon := hide ((mayGo_on Hlk.out HOK.out HM0.out).symm.trans HT.out)
                  clear s1 s2 hr
                  go_wp2_with fail
                  refine (rsize_any v.nm v.env v.srt v.lo v.hi _).mono ?_
                  rintro e w4 ⟨rfl, hb4⟩
                  have hbw4 := hbw3.trans (hb4.mono hbw3.size)
                  have hszb := Hsz.out
                  clear d0 d1 d2 d3 d4
                  go_wp2_with fail
                  go_roundw
                  case rel => exact ⟨k + 1, by omega, by go_num, Hon, hbw4⟩
                  case measure => simp [intOf]; omega
              · have s2b : (v.srt != 2) = true := by simp [s2]
                have HM4 : Hid (v.may = 4) := hide (by simp [V.may, mayOfV, s1, s2])
                have Hfin : Hid (mayL l = 4) := hide (by unfold mayL; rw [HT.out.symm.trans (mayGo_bad Hlk.out HOK.out (by rw [HM4.out]; decide)), HM4.out]; rfl)
                clear s1 s2
                go_wp2_with fail
                go_ret
                exact ⟨ret_int Hfin.out.symm, hbw3⟩
        · have hk6b : decide ((k : Int) < 6) = false := by simp; omega
          have hk6c : decide ((6 : Int) ≤ (k : Int)) = true := by simp; omega
          go_quiet ((go_at_call 87; exact Calls.quiet_of_same ((rname_any v.nm _ hvl).mono (fun e w' h => ⟨by rw [h.1, HN.out], h.2.symm⟩))))
          clear d0 d1 d2 d3 d4
          go_wp2_with fail
          go_loopw [37] (fun i wi => ∃ (j : Nat), j ≤ k ∧ i = .int .i64 j ∧ Hid (∀ q u, q < j → l[q]? = some u → (u.nm.toList == v.nm.toList) = false) ∧ Below w2.heap.size w2 wi) (fun i _ => k - (intOf i).toNat)
          case atStart => exact ⟨0, Nat.zero_le _, rfl, hide (fun q u hq => absurd hq (by omega)), below_drewN (Below.refl _ _) _⟩
          case round =>
            obtain ⟨j, hj, rfl, HQ, hbi⟩ := hrel
            have hszi := hbi.size
            by_cases hjk : j < k
            · have hjk' : ((j : Int) < (k : Int)) := by omega
              obtain ⟨b', off', u, hA, hbB', hlu, c0, c1, c2, c3, c4⟩ := (Hv2.out.below (hbi.mono (by omega))).at_ (show j < n by omega)
              injection hA with hA
              injection hA with hA1 hA2
              subst hA1; subst hA2
              have Hlu := hide hlu; clear hlu
              obtain ⟨d0, d1, d2, d3, d4⟩ := Hbox.out.below hbi hbz3
              have hbxi : bx < wr.heap.size := by omega
              cases he : u.nm.toList == v.nm.toList
              · have HQ2 : Hid (∀ q u, q < j + 1 → l[q]? = some u → (u.nm.toList == v.nm.toList) = false) := hide (fun q u' hq hu' => by
                  rcases Nat.lt_or_ge q j with h | h
                  · exact HQ.out q u' h hu'
                  · obtain rfl : q = j := by omega
                    have := Hlu.out; rw [hu'] at this; injection this with this; rw [this]; exact he)
                go_wp2_with fail
                go_roundw
                case rel => exact ⟨j + 1, by omega, by go_num, HQ2, hbi.alloc hszi _⟩
                case measure => simp [intOf]; omega
              · have Hfin : Hid (mayL l = 3) := hide (by unfold mayL; rw [HT.out.symm.trans (mayGo_name Hlk.out (.inr (names_hit hjk Hlu.out he)))]; rfl)
                go_wp2_with fail
                go_ret
                exact ⟨ret_int Hfin.out.symm, (Hbx.out.trans (hbi.mono hbz2)).alloc (by omega) _⟩
            · have hjk' : ¬ ((j : Int) < (k : Int)) := by omega
              obtain rfl : j = k := by omega
              have HOK : Hid (¬ (nameB v.nm = false ∨ v.key ∈ namesTo l j)) := hide (by rw [HN.out]; simp [names_of HQ.out])
              obtain ⟨d0, d1, d2, d3, d4⟩ := Hbox.out.below hbi hbz3
              have hbw3 := Hbx.out.trans (hbi.mono hbz2)
              by_cases s1 : v.srt = 1
              · have s1b : (v.srt != 1) = false := by simp [s1]
                have s1c : (v.srt == 1) = true := by simp [s1]
                have Hs1 := hide s1; clear s1
                by_cases z1 : v.lo = 0
                · have z1b : (v.lo != 0) = false := by simp [z1]
                  by_cases z2 : v.hi = 0
                  · have z2b : (v.hi != 0) = false := by simp [z2]
                    have HM0 : Hid (v.may = 0) := hide (by simp [V.may, mayOfV, Hs1.out, z1, z2])
                    have Hsz : Hid ((sizeOfV v.srt v.lo v.hi == 0) = false) := hide (by simp [sizeOfV, Hs1.out])
                    have Hon := hide ((mayGo_on Hlk.out HOK.out HM0.out).symm.trans HT.out)
                    clear z1 z2
                    go_wp2_with fail
                    refine (rsize_any v.nm v.env v.srt v.lo v.hi _).mono ?_
                    rintro e w4 ⟨rfl, hb4⟩
                    have hbw4 := hbw3.trans (hb4.mono hbw3.size)
                    have hszb := Hsz.out
                    clear d0 d1 d2 d3 d4
                    go_wp2_with fail
                    go_roundw
                    case rel => exact ⟨j + 1, by omega, by go_num, Hon, hbw4⟩
                    case measure => simp [intOf]; omega
                  · have z2b : (v.hi != 0) = true := by simp [z2]
                    have HM6 : Hid (v.may = 6) := hide (by simp [V.may, mayOfV, Hs1.out, z2])
                    have Hfin : Hid (mayL l = 6) := hide (by unfold mayL; rw [HT.out.symm.trans (mayGo_bad Hlk.out HOK.out (by rw [HM6.out]; decide)), HM6.out]; rfl)
                    clear z1 z2
                    go_wp2_with fail
                    go_ret
                    exact ⟨ret_int Hfin.out.symm, hbw3⟩
                · have z1b : (v.lo != 0) = true := by simp [z1]
                  have HM6 : Hid (v.may = 6) := hide (by simp [V.may, mayOfV, Hs1.out, z1])
                  have Hfin : Hid (mayL l = 6) := hide (by unfold mayL; rw [HT.out.symm.trans (mayGo_bad Hlk.out HOK.out (by rw [HM6.out]; decide)), HM6.out]; rfl)
                  clear z1
                  go_wp2_with fail
                  go_ret
                  exact ⟨ret_int Hfin.out.symm, hbw3⟩
              · have s1b : (v.srt != 1) = true := by simp [s1]
                have s1c : (v.srt == 1) = false := by simp [s1]
                by_cases s2 : v.srt = 2
                · have s2b : (v.srt != 2) = false := by simp [s2]
                  cases hr : rangeB v.lo v.hi
                  · have HM6 : Hid (v.may = 6) := hide (by simp [V.may, mayOfV, s1, s2, hr])
                    have Hfin : Hid (mayL l = 6) := hide (by unfold mayL; rw [HT.out.symm.trans (mayGo_bad Hlk.out HOK.out (by rw [HM6.out]; decide)), HM6.out]; rfl)
                    have Hsz : Hid ((sizeOfV v.srt v.lo v.hi == 0) = true) := hide (by simp [sizeOfV, s1, hr])
                    clear s1 s2 hr
                    go_wp2_with fail
                    refine (rsize_any v.nm v.env v.srt v.lo v.hi _).mono ?_
                    rintro e w4 ⟨rfl, hb4⟩
                    have hbw4 := hbw3.trans (hb4.mono hbw3.size)
                    have hszb := Hsz.out
                    clear d0 d1 d2 d3 d4
                    go_wp2_with fail
                    go_ret
                    exact ⟨ret_int Hfin.out.symm, hbw4⟩
                  · have HM0 : Hid (v.may = 0) := hide (by simp [V.may, mayOfV, s1, s2, hr])
                    have Hsz : Hid ((sizeOfV v.srt v.lo v.hi == 0) = false) := hide (by have := size_pos HM0.out; rw [beq_eq_false_iff_ne]; omega)
                    have Hon := hide ((mayGo_on Hlk.out HOK.out HM0.out).symm.trans HT.out)
                    clear s1 s2 hr
                    go_wp2_with fail
                    refine (rsize_any v.nm v.env v.srt v.lo v.hi _).mono ?_
                    rintro e w4 ⟨rfl, hb4⟩
                    have hbw4 := hbw3.trans (hb4.mono hbw3.size)
                    have hszb := Hsz.out
                    clear d0 d1 d2 d3 d4
                    go_wp2_with fail
                    go_roundw
                    case rel => exact ⟨j + 1, by omega, by go_num, Hon, hbw4⟩
                    case measure => simp [intOf]; omega
                · have s2b : (v.srt != 2) = true := by simp [s2]
                  have HM4 : Hid (v.may = 4) := hide (by simp [V.may, mayOfV, s1, s2])
                  have Hfin : Hid (mayL l = 4) := hide (by unfold mayL; rw [HT.out.symm.trans (mayGo_bad Hlk.out HOK.out (by rw [HM4.out]; decide)), HM4.out]; rfl)
                  clear s1 s2
                  go_wp2_with fail
                  go_ret
                  exact ⟨ret_int Hfin.out.symm, hbw3⟩
    · have Hfin := hide (HT.out.symm.trans (mayGo_end (l := l) (k := k) (by rw [Hn.out]; omega)))
      have hlt' : ¬ ((k : Int) < (n : Int)) := by omega
      have Hall := hide (fun v hv => (mayGo_all l _ Hfin.out v hv).1)
      have Htz := hide (tot_zero (l := l) Hall.out)
      have hsz := hb.size
      by_cases h6 : 6 < n
      · have h6b : decide ((6 : Int) < (n : Int)) = true := by simp; omega
        have Hr : Hid (mayL l = 7) := hide (by unfold mayL; rw [Hfin.out, Htz.out.2 (.inl (by rw [Hn.out]; exact h6))]; rfl)
        go_wp2_with fail
        go_ret
        exact ⟨ret_int Hr.out.symm, hb⟩
      · have h6b : decide ((6 : Int) < (n : Int)) = false := by simp; omega
        go_wp2_with fail
        refine (rprod_any A n c B l _ Hm.out (by omega) (Hv.out.below (hb.mono hB))).mono ?_
        rintro e w1 ⟨rfl, hb1⟩
        have hbw1 := hb.trans (hb1.mono hsz)
        by_cases h5 : 512 < pmGo 1 l
        · have h5b : decide (512 < pmGo 1 l) = true := by simp [h5]
          have Hr : Hid (mayL l = 7) := hide (by unfold mayL; rw [Hfin.out, Htz.out.2 (.inr h5)]; rfl)
          go_wp2_with fail
          go_ret
          exact ⟨ret_int Hr.out.symm, hbw1⟩
        · have h5b : decide (512 < pmGo 1 l) = false := by simp; omega
          have Hr : Hid (mayL l = 0) := hide (by
            have hz : ¬ totL l = 0 := fun h => by
              rcases Htz.out.1 h with h | h
              · rw [Hn.out] at h; omega
              · omega
            unfold mayL; rw [Hfin.out, if_neg hz]; rfl)
          go_wp2_with fail
          go_ret
          exact ⟨ret_int Hr.out.symm, hbw1⟩
end Go.Proofs.YtbppdalfcldodaaGreat.Dom
namespace Go.Proofs.YtbppdalfcldodaaGreat.Dom
open Go.RowKit Go.WideMaps Go.Maps
set_option linter.unusedSimpArgs false
set_option linter.unusedVariables false

theorem totGo_none : ∀ (l : List V) (t : Int), (∃ v ∈ l, v.may ≠ 0) → totGo t l = 0
  | [], _, h => by obtain ⟨v, hv, _⟩ := h; simp at hv
  | u :: r, t, h => by
    rw [totGo]
    split
    · rfl
    · rename_i h1
      split
      · rfl
      · obtain ⟨v, hv, hm⟩ := h
        rcases List.mem_cons.1 hv with rfl | hv
        · exact absurd hm h1
        · exact totGo_none r _ ⟨v, hv, hm⟩
theorem totL_none {l : List V} (h : ∃ v ∈ l, v.may ≠ 0) : totL l = 0 := by
  unfold totL; split
  · rfl
  · exact totGo_none l 1 h
theorem mayGo_why : ∀ (l : List V) (seen : List (List UInt8)), mayGo seen l ≠ 0 → mayGo seen l ≠ 3 → ∃ v ∈ l, v.may ≠ 0
  | [], _, h, _ => absurd rfl h
  | u :: r, seen, h, h3 => by
    rw [mayGo] at h h3
    by_cases c1 : nameB u.nm = false ∨ u.key ∈ seen
    · rw [if_pos c1] at h3; exact absurd rfl h3
    · rw [if_neg c1] at h h3
      by_cases c2 : u.may ≠ 0
      · exact ⟨u, by simp, c2⟩
      · rw [if_neg c2] at h h3
        obtain ⟨v, hv, hm⟩ := mayGo_why r _ h h3
        exact ⟨v, by simp [hv], hm⟩
theorem may_tot {l : List V} (h : mayL l ≠ 0) (h3 : mayL l ≠ 3) : totL l = 0 := by
  unfold mayL at h h3
  by_cases c : mayGo [] l ≠ 0
  · rw [if_pos c] at h h3; exact totL_none (mayGo_why l [] h h3)
  · rw [if_neg c] at h
    by_cases c2 : totL l = 0
    · exact c2
    · rw [if_neg c2] at h; exact absurd rfl h
theorem pm_tot {l : List V} (h : 6 < l.length ∨ 512 < pmGo 1 l) : totL l = 0 := by
  by_cases hall : ∀ v ∈ l, v.may = 0
  · exact (tot_zero hall).2 h
  · refine totL_none (Classical.byContradiction fun hn => hall fun v hv => ?_)
    exact Classical.byContradiction fun hm => hn ⟨v, hv, hm⟩

set_option maxRecDepth 100000 in
set_option maxHeartbeats 1000000 in
theorem rtotal_any (A : Option Addr) (n c B : Nat) (l : List V) (w : World) (hm : n ≤ maxLen) (hnc : n ≤ c) (hc : c ≤ maxLen) (hB : B ≤ w.heap.size) (hv : RV w B A n l) (hnm : ∀ v ∈ l, v.nm.size ≤ maxLen) : Calls Tryz.prog 35 #[.slice A n c] w fun e w' => e = .returned (.int .i64 (totL l)) ∧ Below w.heap.size w w' := by
  have Hm := hide hm
  have Hc := hide hc
  have Hn := hide hv.1
  have Hnm := hide hnm; clear hnm
  unfold maxLen at hm
  have Hv := hide hv; clear hv
  clear hc
  by_cases he : mayL l ≠ 0 ∧ mayL l ≠ 3
  · have Hr := hide (may_tot he.1 he.2)
    have e1 : (mayL l != 0) = true := by simp [he.1]
    have e2 : (mayL l != 3) = true := by simp [he.2]
    clear he
    go_enter Tryz.func35, Tryz.ntmps35
    go_wp2_with fail
    refine (rmay_any A n c B l _ Hm.out hnc Hc.out hB Hv.out Hnm.out).mono ?_
    rintro e w1 ⟨rfl, hb1⟩
    go_wp2_with fail
    go_ret
    exact ⟨ret_int Hr.out.symm, hb1⟩
  · have e1 : ((mayL l != 0) && (mayL l != 3)) = false := by
      rcases Classical.em (mayL l = 0) with h | h
      · simp [h]
      · have : mayL l = 3 := Classical.byContradiction fun h3 => he ⟨h, h3⟩
        simp [this]
    have e2 : (mayL l != 0) = false ∨ ((mayL l != 0) = true ∧ (mayL l != 3) = false) := by
      rw [Bool.and_eq_false_iff] at e1
      rcases hx : (mayL l != 0) with _ | _
      · exact .inl rfl
      · rcases e1 with h | h
        · rw [hx] at h; cases h
        · exact .inr ⟨rfl, h⟩
    clear he e1
    by_cases h6 : 6 < n
    · have h6b : decide ((6 : Int) < (n : Int)) = true := by simp; omega
      have Hr : Hid (totL l = 0) := hide (pm_tot (.inl (by rw [Hn.out]; exact h6)))
      rcases e2 with e2 | ⟨e2, e3⟩
      all_goals
        go_enter Tryz.func35, Tryz.ntmps35
        go_wp2_with fail
        refine (rmay_any A n c B l _ Hm.out hnc Hc.out hB Hv.out Hnm.out).mono ?_
        rintro e w1 ⟨rfl, hb1⟩
        go_wp2_with fail
        go_ret
        exact ⟨ret_int Hr.out.symm, hb1⟩
    · have h6b : decide ((6 : Int) < (n : Int)) = false := by simp; omega
      have Hl6 : Hid (¬ 6 < l.length) := hide (by rw [Hn.out]; exact h6)
      by_cases h5 : 512 < pmGo 1 l
      · have h5b : decide (512 < pmGo 1 l) = true := by simp [h5]
        have Hr : Hid (totL l = 0) := hide (pm_tot (.inr h5))
        rcases e2 with e2 | ⟨e2, e3⟩
        all_goals
          go_enter Tryz.func35, Tryz.ntmps35
          go_wp2_with fail
          refine (rmay_any A n c B l _ Hm.out hnc Hc.out hB Hv.out Hnm.out).mono ?_
          rintro e w1 ⟨rfl, hb1⟩
          have hz1 := hb1.size
          go_wp2_with fail
          refine (rprod_any A n c B l _ Hm.out (by omega) (Hv.out.below (hb1.mono hB))).mono ?_
          rintro e w2 ⟨rfl, hb2⟩
          have hbw2 := hb1.trans (hb2.mono hz1)
          go_wp2_with fail
          go_ret
          exact ⟨ret_int Hr.out.symm, hbw2⟩
      · have h5b : decide (512 < pmGo 1 l) = false := by simp; omega
        have H5 := hide h5
        rcases e2 with e2 | ⟨e2, e3⟩
        all_goals
          go_enter Tryz.func35, Tryz.ntmps35
          go_wp2_with fail
          refine (rmay_any A n c B l _ Hm.out hnc Hc.out hB Hv.out Hnm.out).mono ?_
          rintro e w1 ⟨rfl, hb1⟩
          have hz1 := hb1.size
          go_wp2_with fail
          refine (rprod_any A n c B l _ Hm.out (by omega) (Hv.out.below (hb1.mono hB))).mono ?_
          rintro e w2 ⟨rfl, hb2⟩
          have hbw2 := hb1.trans (hb2.mono hz1)
          clear hb1 hb2
          go_wp2_with fail
          go_loopw [24] (fun i wr => ∃ (k : Nat), k ≤ n ∧ i = .int .i64 k ∧ Hid (∀ j u, j < k → l[j]? = some u → u.may = 0) ∧ Below w.heap.size w wr) (fun i _ => n - (intOf i).toNat)
          case atStart => exact ⟨0, Nat.zero_le _, rfl, hide (fun j u hj => absurd hj (by omega)), hbw2⟩
          case round =>
            obtain ⟨k, hk, rfl, HA, hb⟩ := hrel
            by_cases hlt : k < n
            · have hlt' : ((k : Int) < (n : Int)) := by omega
              obtain ⟨b, off, v, rfl, hbB, hlk, c0, c1, c2, c3, c4⟩ := (Hv.out.below (hb.mono hB)).at_ hlt
              have Hlk := hide hlk; clear hlk
              have hsz := hb.size
              go_wp2_with fail
              refine (rsize_any v.nm v.env v.srt v.lo v.hi _).mono ?_
              rintro e w4 ⟨rfl, hb4⟩
              have hbw4 := below_box hb (Nat.le_refl _) hb4
              obtain ⟨d0, d1, d2, d3, d4⟩ := (box_new wr v 103).below hb4 (by simp)
              clear c0 c1 c2 c3 c4 hb4
              by_cases hmay : v.may = 0
              · have sz := size_pos hmay
                have szb : (sizeOfV v.srt v.lo v.hi == 0) = false := by rw [beq_eq_false_iff_ne]; omega
                have HA2 : Hid (∀ j u, j < k + 1 → l[j]? = some u → u.may = 0) := hide (fun j u hj hu => by
                  rcases Nat.lt_or_ge j k with h | h
                  · exact HA.out j u h hu
                  · obtain rfl : j = k := by omega
                    have := Hlk.out; rw [hu] at this; injection this with this; rw [this]; exact hmay)
                by_cases s1 : v.srt = 1
                · have s1c : (v.srt == 1) = true := by simp [s1]
                  have hz : v.lo = 0 ∧ v.hi = 0 := by
                    simp [V.may, mayOfV, s1] at hmay; exact hmay
                  have z1b : (v.lo != 0) = false := by simp [hz.1]
                  have z2b : (v.hi != 0) = false := by simp [hz.2]
                  clear s1 hz hmay
                  go_wp2_with fail
                  go_roundw
                  case rel => exact ⟨k + 1, by omega, by go_num, HA2, hbw4⟩
                  case measure => simp [intOf]; omega
                · have s1c : (v.srt == 1) = false := by simp [s1]
                  clear s1 hmay
                  go_wp2_with fail
                  go_roundw
                  case rel => exact ⟨k + 1, by omega, by go_num, HA2, hbw4⟩
                  case measure => simp [intOf]; omega
              · have Hr : Hid (totL l = 0) := hide (totL_none ⟨v, List.mem_of_getElem? Hlk.out, hmay⟩)
                by_cases sz0 : sizeOfV v.srt v.lo v.hi = 0
                · have szb : (sizeOfV v.srt v.lo v.hi == 0) = true := by simp [sz0]
                  clear hmay sz0
                  go_wp2_with fail
                  go_ret
                  exact ⟨ret_int Hr.out.symm, hbw4⟩
                · have szb : (sizeOfV v.srt v.lo v.hi == 0) = false := by simp [sz0]
                  have s1 : v.srt = 1 := Classical.byContradiction fun h1 => by
                    by_cases s2 : v.srt = 2
                    · cases hr : rangeB v.lo v.hi
                      · exact sz0 (by simp [sizeOfV, h1, hr])
                      · exact hmay (by simp [V.may, mayOfV, h1, s2, hr])
                    · exact sz0 (by simp [sizeOfV, h1, s2])
                  have s1c : (v.srt == 1) = true := by simp [s1]
                  by_cases z1 : v.lo = 0
                  · have z1b : (v.lo != 0) = false := by simp [z1]
                    have z2 : ¬ v.hi = 0 := fun z2 => hmay (by simp [V.may, mayOfV, s1, z1, z2])
                    have z2b : (v.hi != 0) = true := by simp [z2]
                    clear s1 z1 z2 hmay sz0
                    go_wp2_with fail
                    go_ret
                    exact ⟨ret_int Hr.out.symm, hbw4⟩
                  · have z1b : (v.lo != 0) = true := by simp [z1]
                    clear s1 z1 hmay sz0
                    go_wp2_with fail
                    go_ret
                    exact ⟨ret_int Hr.out.symm, hbw4⟩
            · have hlt' : ¬ ((k : Int) < (n : Int)) := by omega
              have Hr : Hid (totL l = pmGo 1 l) := hide (tot_pm (fun v hv => by
                obtain ⟨j, hj, e⟩ := List.mem_iff_getElem.1 hv
                exact HA.out j v (by rw [Hn.out] at hj; omega) (by rw [List.getElem?_eq_getElem hj, e])) (by have := Hl6.out; omega) (by have := H5.out; omega))
              have hsz := hb.size
              go_wp2_with fail
              refine (rprod_any A n c B l _ Hm.out (by omega) (Hv.out.below (hb.mono hB))).mono ?_
              rintro e w4 ⟨rfl, hb4⟩
              have hbw4 := hb.trans (hb4.mono hsz)
              go_wp2_with fail
              go_ret
              exact ⟨ret_int Hr.out.symm, hbw4⟩
end Go.Proofs.YtbppdalfcldodaaGreat.Dom
namespace Go.Proofs.YtbppdalfcldodaaGreat.Dom
open Go.RowKit Go.WideMaps Go.Maps
set_option linter.unusedSimpArgs false
set_option linter.unusedVariables false

def ints (xs : List Int) : List Value := xs.map (Value.int .i64)
def RefVals (w : World) (n : Nat) (xs : List Int) (e : Ending) (w' : World) : Prop :=
  ∃ A c, e = .returned (.tuple #[.slice A n c, .bool true]) ∧ w'.ownsRow w.heap.size 3 1 (.slice A n c) n (ints xs) ∧ Below w.heap.size w w'

set_option maxHeartbeats 1000000 in
theorem rvals_bad (A : Option Addr) (n c B : Nat) (l : List V) (s : Int) (w : World) (hm : n ≤ maxLen) (hnc : n ≤ c) (hc : c ≤ maxLen) (hB : B ≤ w.heap.size) (hv : RV w B A n l) (hnm : ∀ v ∈ l, v.nm.size ≤ maxLen) (hbad : mayL l ≠ 0 ∨ s < 0 ∨ totL l ≤ s) :
    Calls Tryz.prog 108 #[.slice A n c, .int .i64 s] w fun e w' => e = .returned (.tuple #[.slice none 0 0, .bool false]) ∧ Below w.heap.size w w' := by
  have Hm := hide hm
  have Hc := hide hc
  have Hnm := hide hnm; clear hnm
  have Hv := hide hv; clear hv
  clear hc
  by_cases h1 : mayL l = 0
  · have h1b : (mayL l != 0) = false := by simp [h1]
    have H1 := hide h1; clear h1
    by_cases h2 : s < 0
    · have h2b : decide (s < 0) = true := by simp [h2]
      clear hbad hm
      go_enter Tryz.func108, Tryz.ntmps108
      go_wp2_with fail
      refine (rmay_any A n c B l _ Hm.out hnc Hc.out hB Hv.out Hnm.out).mono ?_
      rintro e w1 ⟨rfl, hb1⟩
      go_wp2_with fail
      go_ret2
      exact ⟨rfl, hb1⟩
    · have h2b : decide (s < 0) = false := by simp [h2]
      have h3 : totL l ≤ s := by rcases hbad with h | h | h <;> first | exact h | exact absurd h h2 | exact absurd H1.out h
      have h3b : decide (totL l ≤ s) = true := by simp [h3]
      clear hbad hm
      go_enter Tryz.func108, Tryz.ntmps108
      go_wp2_with fail
      refine (rmay_any A n c B l _ Hm.out hnc Hc.out hB Hv.out Hnm.out).mono ?_
      rintro e w1 ⟨rfl, hb1⟩
      go_wp2_with fail
      refine (rtotal_any A n c B l _ Hm.out hnc Hc.out (Nat.le_trans hB hb1.size) (Hv.out.below (hb1.mono hB)) Hnm.out).mono ?_
      rintro e w2 ⟨rfl, hb2⟩
      have hbw2 := hb1.trans (hb2.mono hb1.size)
      go_wp2_with fail
      go_ret2
      exact ⟨rfl, hbw2⟩
  · have h1b : (mayL l != 0) = true := by simp [h1]
    clear hbad hm h1
    go_enter Tryz.func108, Tryz.ntmps108
    go_wp2_with fail
    refine (rmay_any A n c B l _ Hm.out hnc Hc.out hB Hv.out Hnm.out).mono ?_
    rintro e w1 ⟨rfl, hb1⟩
    go_wp2_with fail
    go_ret2
    exact ⟨rfl, hb1⟩

set_option maxRecDepth 100000 in
set_option maxHeartbeats 1000000 in
theorem rvals_good (A : Option Addr) (n c B : Nat) (l : List V) (s : Int) (w : World) (hnc : n ≤ c) (hc : c ≤ maxLen) (hB : B ≤ w.heap.size) (hv : RV w B A n l) (hnm : ∀ v ∈ l, v.nm.size ≤ maxLen) (h1 : mayL l = 0) (h2 : 0 ≤ s) (h3 : s < totL l) :
    Calls Tryz.prog 108 #[.slice A n c, .int .i64 s] w (RefVals w n (valsL l s)) := by
  have hn6 : n ≤ 6 := by have := totL_len (mayL_zero h1).2; rw [hv.1] at this; exact this
  have hm : n ≤ maxLen := by unfold maxLen; omega
  have hs512 : s < 512 := by have := (totL_bd l).2; omega
  have Hm := hide hm
  have Hc := hide hc
  have Hn := hide hv.1
  have Hnm := hide hnm; clear hnm
  have Hv := hide hv; clear hv
  have h1b : (mayL l != 0) = false := by simp [h1]
  have Hall := hide (mayL_all h1)
  have H1 := hide h1; clear h1
  have h2b : decide (s < 0) = false := by simp; omega
  have h3b : decide (totL l ≤ s) = false := by simp; omega
  have Hl := hide (valsL_length l s)
  clear hm hc
  obtain ⟨i0, hi0, hz0, hz1, hz2⟩ := info_parts info3
  have Hi0 := hide hi0; have Hz0 := hide hz0; have Hz1 := hide hz1; have Hz2 := hide hz2
  clear hi0 hz0 hz1 hz2
  go_enter Tryz.func108, Tryz.ntmps108
  go_wp2_with fail
  refine (rmay_any A n c B l _ Hm.out hnc Hc.out hB Hv.out Hnm.out).mono ?_
  rintro e w1 ⟨rfl, hb1⟩
  go_wp2_with fail
  refine (rtotal_any A n c B l _ Hm.out hnc Hc.out (Nat.le_trans hB hb1.size) (Hv.out.below (hb1.mono hB)) Hnm.out).mono ?_
  rintro e w2 ⟨rfl, hb2⟩
  have hbw2 := hb1.trans (hb2.mono hb1.size)
  clear hb1 hb2
  go_wp2_with fail
  go_loopw [1, 6, 25] (fun t o i wr => ∃ (k cc : Nat) (st : Int) (O : Option Addr), k ≤ n ∧ i = .int .i64 k ∧ t = .int .i64 st ∧ o = .slice O k cc ∧ 0 ≤ st ∧ st < 512 ∧ Hid ((valsL l s).drop k = valsL (l.drop k) st) ∧ wr.ownsRow w.heap.size 3 1 (.slice O k cc) k (ints ((valsL l s).take k)) ∧ Below w.heap.size w wr) (fun _ _ i _ => n - (intOf i).toNat)
  case atStart => exact ⟨0, 0, s, none, Nat.zero_le _, rfl, rfl, rfl, h2, hs512, hide rfl, ⟨by simp [ints], .inl ⟨rfl, rfl⟩⟩, hbw2⟩
  case round =>
    obtain ⟨k, cc, st, O, hk, rfl, rfl, rfl, hst0, hst1, HT, hrw, hb⟩ := hrel
    by_cases hlt : k < n
    · have hlt' : ((k : Int) < (n : Int)) := by omega
      obtain ⟨b, off, v, rfl, hbB, hlk, c0, c1, c2, c3, c4⟩ := (Hv.out.below (hb.mono hB)).at_ hlt
      have hmay := Hall.out v (List.mem_of_getElem? hlk)
      have sz1 := size_pos hmay
      have sz2 := (size_bd v.srt v.lo v.hi).2
      obtain ⟨lo1, lo2⟩ := may_lo hmay
      have Hlk := hide hlk; clear hlk hmay
      have hsz := hb.size
      have Hrw := hide hrw; clear hrw
      go_wp2_with fail
      refine (rsize_any _ _ _ _ _ _).mono ?_
      rintro e w4 ⟨rfl, hb4⟩
      have hbw4 := below_box hb (Nat.le_refl _) hb4
      obtain ⟨d0, d1, d2, d3, d4⟩ := (box_new wr v 103).below hb4 (by simp)
      have hbx : wr.heap.size < w4.heap.size := by have := hb4.size; simp at this; omega
      have Hrw4 : Hid (w4.ownsRow w.heap.size 3 1 (.slice O k cc) k (ints ((valsL l s).take k))) := hide ((Hrw.out.alloc _).kept (row := none) ⟨hb4.os, hb4.tape, hb4.output, hb4.size, fun i hi _ => hb4.block i hi⟩ (by
        cases O
        · exact .inl rfl
        · exact .inr (by simp [Value.ownBlock])))
      have hog : ∀ q, (Value.slice O k cc).ownBlock = some q → q < wr.heap.size := fun q hq => (Hrw.out.lt q hq).2
      have Hog := hide hog
      clear c0 c1 c2 c3 c4 Hrw hog
      generalize hs : sizeOfV v.srt v.lo v.hi = z at *
      have Hs : Hid (v.size = z) := hide hs
      clear hs
      have hr1 : 0 ≤ st % z := Int.emod_nonneg _ (by omega)
      have hr2 : st % z < z := Int.emod_lt_of_pos st (by omega)
      have hq0 : 0 ≤ st / z := Int.ediv_nonneg hst0 (by omega)
      have hq1 : st / z ≤ st := Int.ediv_le_self _ hst0
      go_wp2_with fail
      have hwr : IntKind.i64.wrap (st % z + v.lo) = st % z + v.lo := IntWalk.i64_in _ (by omega)
      generalize wr.heap.size = bx at *
      have hz4 := hbw4.size
      have hzn : ¬ z = 0 := by omega
      have hzb : (z == 0) = false := by simp [hzn]
      have htm : st.tmod z = st % z := Int.tmod_eq_emod_of_nonneg hst0
      go_region_held3 (fun w' => w'.cell? ⟨bx, 3, none⟩ = some (.int .i64 v.lo))
        (first
          | go_keep
          | (rw [hgrow.cell_far _ (by simp; omega) (fun e => by have := Hog.out bx e.symm; omega)]; assumption))
        ((refine step_append_lies _ (by rfl) _ _ _ (by rfl) w.heap.size 3 i0 _ 1 8 Tryz.underlying32 Hi0.out Hz0.out Hz1.out Hz2.out rfl (by omega) (.slice O k cc) k (ints ((valsL l s).take k)) (by rfl) ((Hrw4.out.alloc _).drew)
            ⟨w4.heap.size, 0, none⟩ 1 1 [.int .i64 (st % z + v.lo)] (by rfl) (by rfl) (World.news_of_block (cs := #[.int .i64 (st % z + v.lo)]) (t := 3) (fr := (0, 0)) (heap_alloc_new w4 _)) (by simp [Value.oneCell'])
            (by omega) (by unfold maxLen; omega) (by omega) (by simp; omega) (w4.heap.size + 1) (by simp) ?_; intro gg cap w5 hown5 hgrow hat hlt5))
      have hbw5 : Below w.heap.size w w5 := (Below.grown ((hbw4.alloc hz4 _).drew) hgrow (by simp; omega) (fun q hq => (Hrw4.out.lt q hq).1))
      have Hstep := hide (vals_step Hlk.out HT.out)
      rw [Hs.out] at Hstep
      have Hown5 : Hid (w5.ownsRow w.heap.size 3 1 (.slice (some ⟨gg, 0, none⟩) (k + 1) cap) (k + 1) (ints ((valsL l s).take (k + 1)))) := hide (by
        have e : (valsL l s).take (k + 1) = (valsL l s).take k ++ [st % z + v.lo] := by
          rw [Int.add_comm]
          obtain ⟨hkl, e⟩ := List.getElem?_eq_some_iff.1 Hstep.out.1
          rw [List.take_succ_eq_append_getElem hkl, e]
        rw [e, ints, List.map_append]; exact hown5)
      clear hown5 hgrow hat hwr htm d0 d1 d2 d3 d4 hb4 hzb hzn
      go_wp2_with fail
      go_roundw
      case rel => exact ⟨k + 1, cap, st / z, some ⟨gg, 0, none⟩, by omega, by go_num, rfl, rfl, by omega, by omega, hide Hstep.out.2, Hown5.out, hbw5⟩
      case measure => simp [intOf]; omega
    · have hlt' : ¬ ((k : Int) < (n : Int)) := by omega
      obtain rfl : k = n := by omega
      go_wp2_with fail
      go_ret2
      exact ⟨O, cc, rfl, by rw [List.take_of_length_le (by rw [Hl.out, Hn.out]; omega)] at hrw; exact hrw, hb⟩
end Go.Proofs.YtbppdalfcldodaaGreat.Dom
