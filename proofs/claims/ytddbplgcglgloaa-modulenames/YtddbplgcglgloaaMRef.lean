/- The walks of the statements' own two and awake. The walks of Heavy (of the statements) and dom.Find. The walks of the reference's Size, Find, product. The walk of the reference's Name. -/
import Derived.Test.YtddbplgcglgloaaMNum
import Derived.KernelRfl
namespace Go.Proofs.Ytddbplgcglgloaa.Dom
open Go.RowKit Go.WideMaps Go.Maps
set_option linter.unusedSimpArgs false
set_option linter.unusedVariables false

def twoL : List V := [⟨⟨#[120]⟩, true, 1, 0, 0⟩, ⟨⟨#[121]⟩, false, 2, 1, 3⟩]
theorem two_may : mayL twoL = 0 := by decide +kernel
theorem two_tot : totL twoL = 6 := by decide +kernel
theorem two_vals : valsL twoL 5 = [1, 3] := by decide +kernel
theorem two_ok : stateOk twoL [1, 3] = true := by decide +kernel
theorem two_st : stateV twoL [1, 3] = 5 := by decide +kernel
theorem two_nm : ∀ v ∈ twoL, v.nm.size ≤ maxLen := by
  intro v hv
  simp [twoL] at hv
  rcases hv with rfl | rfl <;> (unfold maxLen; decide)
def twoCells : Array Value := #[.string ⟨#[120]⟩, .bool true, .int .i64 1, .int .i64 0, .int .i64 0, .string ⟨#[121]⟩, .bool false, .int .i64 2, .int .i64 1, .int .i64 3]
theorem two_rv (w : World) : RV (w.alloc (.cells twoCells 42)) (w.heap.size + 1) (some ⟨w.heap.size, 0, none⟩) 2 twoL := by
  refine ⟨rfl, fun _ => ⟨w.heap.size, 0, rfl, by omega, fun k v hv => ?_⟩⟩
  match k, hv with
  | 0, hv => simp [twoL] at hv; subst hv; simp [CellV, go_sem, twoCells]
  | 1, hv => simp [twoL] at hv; subst hv; simp [CellV, go_sem, twoCells]
  | k + 2, hv => simp [twoL] at hv

def TwoPost (w : World) (e : Ending) (w' : World) : Prop := e = .returned (.slice (some ⟨w.heap.size, 0, none⟩) 2 2) ∧ w' = w.alloc (.cells twoCells 42)
theorem row_ri {w : World} {g n : Nat} {xs : List Int} (h : w.rowIs g 3 n (fun i => .int .i64 (xs.getD i 0))) (hl : xs.length = n) : RI w w.heap.size (some ⟨g, 0, none⟩) n xs :=
  ⟨hl, fun _ => ⟨g, 0, rfl, h.lt, fun k x hx => by
    obtain ⟨hk, rfl⟩ := List.getElem?_eq_some_iff.1 hx
    rw [Nat.zero_add, h.cell (by omega)]; simp [List.getD, hk]⟩⟩

end Go.Proofs.Ytddbplgcglgloaa.Dom
namespace Go.Proofs.Ytddbplgcglgloaa.Dom
open Go.RowKit Go.WideMaps Go.Maps
set_option linter.unusedSimpArgs false
set_option linter.unusedVariables false

def heavyGo (i : Nat) : List V → Int
  | [] => 0
  | v :: r => if 10 ≤ i ∨ 100 < v.nm.size then (i : Int) + 1 else heavyGo (i + 1) r
theorem heavy_nonneg : ∀ (l : List V) (i : Nat), 0 ≤ heavyGo i l
  | [], _ => by simp [heavyGo]
  | v :: r, i => by
    rw [heavyGo]; split
    · omega
    · exact heavy_nonneg r _
theorem heavy_none : ∀ (l : List V) (i : Nat), heavyGo i l = 0 → l.length + i ≤ max 10 i ∧ ∀ v ∈ l, v.nm.size ≤ 100
  | [], i, _ => by simp; omega
  | v :: r, i, h => by
    rw [heavyGo] at h
    split at h
    · omega
    · rename_i h1
      obtain ⟨h2, h3⟩ := heavy_none r (i + 1) h
      refine ⟨by simp only [List.length_cons]; omega, fun u hu => ?_⟩
      rcases List.mem_cons.1 hu with rfl | hu
      · omega
      · exact h3 u hu

set_option maxHeartbeats 400000 in
theorem heavy_any (A : Option Addr) (n c B : Nat) (l : List V) (w : World) (hm : n ≤ maxLen) (hB : B ≤ w.heap.size) (hv : RV w B A n l) (hnm : ∀ v ∈ l, v.nm.size ≤ maxLen) : Calls Try.prog 15 #[.slice A n c] w fun e w' => e = .returned (.int .i64 (heavyGo 0 l)) ∧ Below w.heap.size w w' := by
  have Hn := hide hv.1
  unfold maxLen at hm
  have Hv := hide hv; clear hv
  have Hnm := hide hnm; clear hnm
  go_enter Try.func15, Try.ntmps15
  go_wp2_with fail
  go_loopw [7] (fun i wr => ∃ (k : Nat), k ≤ n ∧ i = .int .i64 k ∧ Hid (heavyGo k (l.drop k) = heavyGo 0 l) ∧ Below w.heap.size w wr) (fun i _ => n - (intOf i).toNat)
  case atStart => exact ⟨0, Nat.zero_le _, rfl, hide rfl, Below.refl _ _⟩
  case round =>
    obtain ⟨k, hk, rfl, HT, hb⟩ := hrel
    by_cases hlt : k < n
    · have hlt' : ((k : Int) < (n : Int)) := by omega
      obtain ⟨b, off, v, rfl, hbB, hlk, c0, c1, c2, c3, c4⟩ := (Hv.out.below (hb.mono hB)).at_ hlt
      have hvl : v.nm.size ≤ 2 ^ 63 - 1 := Hnm.out v (List.mem_of_getElem? hlk)
      have Hst : Hid ((if 10 ≤ k ∨ 100 < v.nm.size then (k : Int) + 1 else heavyGo (k + 1) (l.drop (k + 1))) = heavyGo 0 l) := hide (by rw [← HT.out, drop_at hlk, heavyGo])
      clear hlk
      have hsz := hb.size
      by_cases h10 : 10 ≤ k
      · have h10b : decide ((10 : Int) ≤ (k : Int)) = true := by simp; omega
        have Hfin : Hid (heavyGo 0 l = (k : Int) + 1) := hide (by rw [← Hst.out, if_pos (.inl h10)])
        go_wp2_with fail
        go_ret
        exact ⟨ret_int Hfin.out.symm, hb.alloc hsz _⟩
      · have h10b : decide ((10 : Int) ≤ (k : Int)) = false := by simp; omega
        by_cases h100 : 100 < v.nm.size
        · have h100b : decide ((100 : Int) < (v.nm.size : Int)) = true := by simp; omega
          have Hfin : Hid (heavyGo 0 l = (k : Int) + 1) := hide (by rw [← Hst.out, if_pos (.inr h100)])
          go_wp2_with fail
          go_ret
          exact ⟨ret_int Hfin.out.symm, hb.alloc hsz _⟩
        · have h100b : decide ((100 : Int) < (v.nm.size : Int)) = false := by simp; omega
          have Hon : Hid (heavyGo (k + 1) (l.drop (k + 1)) = heavyGo 0 l) := hide (by rw [← Hst.out, if_neg (by omega)])
          go_wp2_with fail
          go_roundw
          case rel => exact ⟨k + 1, by omega, by go_num, Hon, hb.alloc hsz _⟩
          case measure => simp [intOf]; omega
    · have hlt' : ¬ ((k : Int) < (n : Int)) := by omega
      have Hfin : Hid (heavyGo 0 l = 0) := hide (by rw [← HT.out, List.drop_of_length_le (by rw [Hn.out]; omega), heavyGo])
      go_wp2_with fail
      go_ret
      exact ⟨ret_int Hfin.out.symm, hb⟩

def findGo (nm : List UInt8) (i : Nat) : List V → Int
  | [] => -1
  | v :: r => if v.nm.toList == nm then (i : Int) else findGo nm (i + 1) r

end Go.Proofs.Ytddbplgcglgloaa.Dom
namespace Go.Proofs.Ytddbplgcglgloaa.Dom
open Go.RowKit Go.WideMaps Go.Maps
set_option linter.unusedSimpArgs false
set_option linter.unusedVariables false

set_option maxHeartbeats 400000 in
theorem rsize_ex (nm : ByteArray) (env : Bool) (s lo hi : Int) (w : World) : Calls Try.prog 51 #[.agg #[.string nm, .bool env, .int .i64 s, .int .i64 lo, .int .i64 hi]] w fun e w' => e = .returned (.int .i64 (sizeOfV s lo hi)) ∧ w.alloc (.cells #[.string nm, .bool env, .int .i64 s, .int .i64 lo, .int .i64 hi] 42) = w' := by
  by_cases h1 : s = 1
  · have hv : sizeOfV s lo hi = 2 := by simp [sizeOfV, h1]
    rw [hv]; clear hv
    have hb : (s == 1) = true := by simp [h1]
    clear h1
    go_enter Try.func51, Try.ntmps51
    go_wp2
    go_ret
    exact ⟨rfl, rfl⟩
  · have hb : (s == 1) = false := by simp [h1]
    by_cases h2 : s = 2
    · have hb2 : (s == 2) = true := by simp [h2]
      cases hr : rangeB lo hi
      · have hv : sizeOfV s lo hi = 0 := by simp [sizeOfV, h1, hr]
        rw [hv]; clear hv h1 h2
        have hno := range_false hr
        clear hr
        by_cases k1 : -1000 ≤ lo <;> by_cases k2 : lo ≤ hi <;> by_cases k3 : hi ≤ 1000
        all_goals first
          | (exfalso; omega)
          | (clear hno
             go_enter Try.func51, Try.ntmps51
             go_wp2
             go_ret
             exact ⟨rfl, rfl⟩)
      · have hv : sizeOfV s lo hi = hi - lo + 1 := by simp [sizeOfV, h1, h2, hr]
        rw [hv]; clear hv h1 h2
        obtain ⟨b1, b2, b3⟩ := range_true hr
        clear hr
        go_enter Try.func51, Try.ntmps51
        go_wp2
        go_ret
        exact ⟨rfl, rfl⟩
    · have hb2 : (s == 2) = false := by simp [h2]
      have hv : sizeOfV s lo hi = 0 := by simp [sizeOfV, h1, h2]
      rw [hv]; clear hv h1 h2
      go_enter Try.func51, Try.ntmps51
      go_wp2_with fail
      go_ret
      exact ⟨rfl, rfl⟩
theorem rsize_any (nm : ByteArray) (env : Bool) (s lo hi : Int) (w : World) : Calls Try.prog 51 #[.agg #[.string nm, .bool env, .int .i64 s, .int .i64 lo, .int .i64 hi]] w fun e w' => e = .returned (.int .i64 (sizeOfV s lo hi)) ∧ Below w.heap.size w w' :=
  (rsize_ex nm env s lo hi w).mono fun e w' ⟨he, hw⟩ => ⟨he, by rw [← hw]; exact (Below.refl _ _).alloc (Nat.le_refl _) _⟩

set_option maxHeartbeats 400000 in
theorem rfind_any (A : Option Addr) (n c B : Nat) (l : List V) (s : ByteArray) (w : World) (hm : n ≤ maxLen) (hB : B ≤ w.heap.size) (hv : RV w B A n l) : Calls Try.prog 14 #[.slice A n c, .string s] w fun e w' => e = .returned (.int .i64 (findGo s.toList 0 l)) ∧ Below w.heap.size w w' := by
  have Hn := hide hv.1
  unfold maxLen at hm
  have Hv := hide hv; clear hv
  go_enter Try.func14, Try.ntmps14
  go_wp2_with fail
  go_loopw [9] (fun i wr => ∃ (k : Nat), k ≤ n ∧ i = .int .i64 k ∧ Hid (findGo s.toList k (l.drop k) = findGo s.toList 0 l) ∧ Below w.heap.size w wr) (fun i _ => n - (intOf i).toNat)
  case atStart => exact ⟨0, Nat.zero_le _, rfl, hide rfl, Below.refl _ _⟩
  case round =>
    obtain ⟨k, hk, rfl, HT, hb⟩ := hrel
    by_cases hlt : k < n
    · have hlt' : ((k : Int) < (n : Int)) := by omega
      obtain ⟨b, off, v, rfl, hbB, hlk, c0, c1, c2, c3, c4⟩ := (Hv.out.below (hb.mono hB)).at_ hlt
      have Hst : Hid ((if v.nm.toList == s.toList then (k : Int) else findGo s.toList (k + 1) (l.drop (k + 1))) = findGo s.toList 0 l) := hide (by rw [← HT.out, drop_at hlk, findGo])
      clear hlk
      have hsz := hb.size
      cases he : v.nm.toList == s.toList
      · have Hon : Hid (findGo s.toList (k + 1) (l.drop (k + 1)) = findGo s.toList 0 l) := hide (by rw [← Hst.out, he]; rfl)
        go_wp2_with fail
        go_roundw
        case rel => exact ⟨k + 1, by omega, by go_num, Hon, hb.alloc hsz _⟩
        case measure => simp [intOf]; omega
      · have Hfin : Hid (findGo s.toList 0 l = (k : Int)) := hide (by rw [← Hst.out, he]; rfl)
        go_wp2_with fail
        go_ret
        exact ⟨ret_int Hfin.out.symm, hb.alloc hsz _⟩
    · have hlt' : ¬ ((k : Int) < (n : Int)) := by omega
      have Hfin : Hid (findGo s.toList 0 l = -1) := hide (by rw [← HT.out, List.drop_of_length_le (by rw [Hn.out]; omega), findGo])
      go_wp2_with fail
      go_ret
      exact ⟨ret_int Hfin.out.symm, hb⟩

def pmGo (t : Int) : List V → Int
  | [] => t
  | v :: r => pmGo (if 513 < t * v.size then 513 else t * v.size) r

set_option maxHeartbeats 400000 in
theorem rprod_any (A : Option Addr) (n c B : Nat) (l : List V) (w : World) (hm : n ≤ maxLen) (hB : B ≤ w.heap.size) (hv : RV w B A n l) : Calls Try.prog 52 #[.slice A n c] w fun e w' => e = .returned (.int .i64 (pmGo 1 l)) ∧ Below w.heap.size w w' := by
  have Hn := hide hv.1
  unfold maxLen at hm
  have Hv := hide hv; clear hv
  go_enter Try.func52, Try.ntmps52
  go_wp2_with fail
  go_loopw [3, 8] (fun t i wr => ∃ (k : Nat) (p : Int), k ≤ n ∧ i = .int .i64 k ∧ t = .int .i64 p ∧ 0 ≤ p ∧ p ≤ 513 ∧ Hid (pmGo p (l.drop k) = pmGo 1 l) ∧ Below w.heap.size w wr) (fun _ i _ => n - (intOf i).toNat)
  case atStart => exact ⟨0, 1, Nat.zero_le _, rfl, rfl, by omega, by omega, hide rfl, Below.refl _ _⟩
  case round =>
    obtain ⟨k, p, hk, rfl, rfl, hp1, hp2, HT, hb⟩ := hrel
    by_cases hlt : k < n
    · have hlt' : ((k : Int) < (n : Int)) := by omega
      obtain ⟨b, off, v, rfl, hbB, hlk, c0, c1, c2, c3, c4⟩ := (Hv.out.below (hb.mono hB)).at_ hlt
      have Hst : Hid (pmGo (if 513 < p * v.size then 513 else p * v.size) (l.drop (k + 1)) = pmGo 1 l) := hide (by rw [← HT.out, drop_at hlk, pmGo])
      clear hlk
      have hsz := hb.size
      obtain ⟨sz1, sz2⟩ := size_bd v.srt v.lo v.hi
      go_wp2_with fail
      refine (rsize_any _ _ _ _ _ _).mono ?_
      rintro e w1 ⟨rfl, hb1⟩
      have hbw1 := below_box hb (Nat.le_refl _) hb1
      clear c0 c1 c2 c3 c4 hb1
      generalize hs : sizeOfV v.srt v.lo v.hi = z at *
      have Hs : Hid (v.size = z) := hide hs
      clear hs
      rw [Hs.out] at Hst
      have q1 : 0 ≤ p * z := Int.mul_nonneg hp1 sz1
      have q2 : p * z ≤ 513 * 2001 := Int.mul_le_mul hp2 sz2 (by omega) (by omega)
      have qm1 : 0 ≤ (if 513 < p * z then 513 else p * z) := by split <;> omega
      have qm2 : (if 513 < p * z then 513 else p * z) ≤ 513 := by split <;> omega
      go_wp2_with fail
      go_roundw
      case rel => exact ⟨k + 1, _, by omega, by go_num, rfl, qm1, qm2, Hst, hbw1⟩
      case measure => simp [intOf]; omega
    · have Hfin : Hid (pmGo 1 l = p) := hide (by rw [← HT.out, List.drop_of_length_le (by rw [Hn.out]; omega), pmGo])
      have hlt' : ¬ ((k : Int) < (n : Int)) := by omega
      go_wp2_with fail
      go_ret
      exact ⟨ret_int Hfin.out.symm, hb⟩
end Go.Proofs.Ytddbplgcglgloaa.Dom
namespace Go.Proofs.Ytddbplgcglgloaa.Dom
open Go.RowKit Go.WideMaps Go.Maps
set_option linter.unusedSimpArgs false
set_option linter.unusedVariables false

def wordsA : Array Value := #[.string ⟨#[98, 111, 111, 108]⟩, .string ⟨#[105, 110, 116]⟩, .string ⟨#[101, 110, 118]⟩, .string ⟨#[115, 121, 115]⟩, .string ⟨#[105, 110, 105, 116]⟩, .string ⟨#[119, 104, 101, 110]⟩, .string ⟨#[97, 115, 115, 117, 109, 101]⟩,
  .string ⟨#[101, 110, 115, 117, 114, 101]⟩, .string ⟨#[112, 114, 105, 111]⟩, .string ⟨#[97, 110, 121]⟩, .string ⟨#[116, 114, 117, 101]⟩, .string ⟨#[102, 97, 108, 115, 101]⟩, .string ⟨#[105, 102]⟩, .string ⟨#[116, 104, 101, 110]⟩, .string ⟨#[101, 108, 115, 101]⟩,
  .string ⟨#[110, 111, 116]⟩, .string ⟨#[97, 110, 100]⟩, .string ⟨#[111, 114]⟩]
def wordsL : List (List UInt8) := [[98, 111, 111, 108], [105, 110, 116], [101, 110, 118], [115, 121, 115], [105, 110, 105, 116], [119, 104, 101, 110], [97, 115, 115, 117, 109, 101], [101, 110, 115, 117, 114, 101], [112, 114, 105, 111], [97, 110, 121], [116, 114, 117, 101], [102, 97, 108, 115, 101], [105, 102], [116, 104, 101, 110], [101, 108, 115, 101], [110, 111, 116], [97, 110, 100], [111, 114]]
def wordAt (k : Nat) : ByteArray := ⟨(wordsL.getD k []).toArray⟩
theorem words_idx (k : Nat) (hk : k < 18) (w : World) : (Instr.index 95 (.agg wordsA) (.int .i64 (k : Int))).run Try.prog w = .ok (.string (wordAt k)) w := by
  have h : k = 0 ∨ k = 1 ∨ k = 2 ∨ k = 3 ∨ k = 4 ∨ k = 5 ∨ k = 6 ∨ k = 7 ∨ k = 8 ∨ k = 9 ∨ k = 10 ∨ k = 11 ∨ k = 12 ∨ k = 13 ∨ k = 14 ∨ k = 15 ∨ k = 16 ∨ k = 17 := by omega
  rcases h with rfl | rfl | rfl | rfl | rfl | rfl | rfl | rfl | rfl | rfl | rfl | rfl | rfl | rfl | rfl | rfl | rfl | rfl
  all_goals exact (show Sem.run Try.prog _ w = _ by kernel_rfl)
theorem res_words (b : List UInt8) : resB b = wordsL.contains b := by
  simp only [resB, wordsL, List.contains_cons, List.contains_nil, Bool.or_false, Bool.or_assoc]
theorem wordAt_list (k : Nat) : (wordAt k).toList = wordsL.getD k [] := by rw [ByteArray.toList_eq]; rfl
theorem word_hit {b : List UInt8} {k : Nat} (hk : k < 18) (h : (b == (wordAt k).toList) = true) : resB b = true := by
  rw [res_words, List.contains_iff_mem]
  rw [beq_iff_eq, wordAt_list] at h
  have hl : k < wordsL.length := hk
  rw [h, List.getD_eq_getElem?_getD, List.getElem?_eq_getElem hl]
  exact List.getElem_mem hl
theorem word_none {b : List UInt8} (h : ∀ j, j < 18 → (b == (wordAt j).toList) = false) : resB b = false := by
  rw [res_words]
  cases hc : wordsL.contains b
  · rfl
  · rw [List.contains_iff_mem] at hc
    obtain ⟨j, hj, e⟩ := List.mem_iff_getElem.1 hc
    have := h j hj
    rw [wordAt_list, List.getD_eq_getElem?_getD, List.getElem?_eq_getElem hj] at this
    simp [e] at this
theorem ok_yes {c : UInt8} (h : (97 ≤ (c.toNat : Int) ∧ (c.toNat : Int) ≤ 122) ∨ (48 ≤ (c.toNat : Int) ∧ (c.toNat : Int) ≤ 57) ∨ (c.toNat : Int) = 95) : okB c = true := by
  rcases h with h | h | h
  · simp [okB, letterB, h]
  · simp [okB, digitB, h]
  · have : c = 95 := UInt8.toNat_inj.1 (by show c.toNat = 95; omega)
    simp [okB, this]
theorem ok_no {c : UInt8} (h : ¬ (97 ≤ (c.toNat : Int) ∧ (c.toNat : Int) ≤ 122) ∧ ¬ (48 ≤ (c.toNat : Int) ∧ (c.toNat : Int) ≤ 57) ∧ (c.toNat : Int) ≠ 95) : okB c = false := by
  obtain ⟨h1, h2, h3⟩ := h
  exact okB_false (by simp [letterB, h1]) (by simp [digitB, h2]) (by simp [h3])
theorem letter_of {c : UInt8} {b : Bool} (h : letterB (c.toNat : Int) = b) : b = decide (97 ≤ (c.toNat : Int) ∧ (c.toNat : Int) ≤ 122) := by rw [← h]; rfl

set_option maxRecDepth 100000 in
set_option maxHeartbeats 1000000 in
theorem rname_any (s : ByteArray) (w : World) (hm : s.size ≤ maxLen) : Calls Try.prog 50 #[.string s] w fun e w' => e = .returned (.bool (nameB s)) ∧ w = w' := by
  unfold maxLen at hm
  by_cases h1 : s.size < 1
  · rw [name_no1 h1]
    have h1' : decide ((s.size : Int) < 1) = true := by simp; omega
    go_enter Try.func50, Try.ntmps50
    go_wp2_with fail
    go_ret
    exact ⟨rfl, rfl⟩
  · have h1' : decide ((s.size : Int) < 1) = false := by simp; omega
    by_cases h2 : 16 < s.size
    · rw [name_no2 h2]
      have h2' : decide ((16 : Int) < (s.size : Int)) = true := by simp; omega
      go_enter Try.func50, Try.ntmps50
      go_wp2_with fail
      go_ret
      exact ⟨rfl, rfl⟩
    · have h2' : decide ((16 : Int) < (s.size : Int)) = false := by simp; omega
      have h0 : 0 < s.size := by omega
      by_cases k1 : (s[0].toNat : Int) < 97
      · have k1b : decide ((s[0].toNat : Int) < 97) = true := by simp [k1]
        rw [name_no3 h0 (by simp [letterB]; omega)]
        go_enter Try.func50, Try.ntmps50
        go_wp2_with fail
        go_ret
        exact ⟨rfl, rfl⟩
      · have k1b : decide ((s[0].toNat : Int) < 97) = false := by simp; omega
        by_cases k2 : (122 : Int) < (s[0].toNat : Int)
        · have k2b : decide ((122 : Int) < (s[0].toNat : Int)) = true := by simp [k2]
          rw [name_no3 h0 (by simp [letterB]; omega)]
          go_enter Try.func50, Try.ntmps50
          go_wp2_with fail
          go_ret
          exact ⟨rfl, rfl⟩
        · have k2b : decide ((122 : Int) < (s[0].toNat : Int)) = false := by simp; omega
          have Hl : Hid (letterB (s[0].toNat : Int) = true) := hide (by simp [letterB]; omega)
          go_enter Try.func50, Try.ntmps50
          go_wp2_with fail
          go_loop [27] (fun i => ∃ k : Nat, k ≤ s.size ∧ i = .int .i64 k ∧ Hid ((s.data.toList.take k).all okB = true)) (fun i => s.size - (intOf i).toNat)
          case atStart => exact ⟨0, Nat.zero_le _, rfl, hide (by simp)⟩
          case round =>
            obtain ⟨k, hk, rfl, HA⟩ := hrel
            by_cases hlt : k < s.size
            · have hlt' : (k : Int) < (s.size : Int) := by omega
              by_cases hcond : (97 ≤ (s[k].toNat : Int) ∧ (s[k].toNat : Int) ≤ 122) ∨ (48 ≤ (s[k].toNat : Int) ∧ (s[k].toNat : Int) ≤ 57) ∨ (s[k].toNat : Int) = 95
              · have Hok : Hid ((s.data.toList.take (k + 1)).all okB = true) := hide (all_snoc hlt HA.out (ok_yes hcond))
                by_cases a1 : (s[k].toNat : Int) < 97 <;> by_cases a2 : (122 : Int) < (s[k].toNat : Int) <;> by_cases a3 : (s[k].toNat : Int) < 48 <;> by_cases a4 : (57 : Int) < (s[k].toNat : Int) <;> cases a5 : ((s[k].toNat : Int) != 95)
                all_goals first
                  | (exfalso; simp at a5; omega)
                  | (clear hcond
                     go_wp2_with fail
                     go_round
                     case rel => exact ⟨k + 1, by omega, by go_num, Hok⟩
                     case measure => simp [intOf]; omega)
              · have Hno : Hid (nameB s = false) := hide (name_no4 hlt (ok_no (by omega)))
                by_cases a1 : (s[k].toNat : Int) < 97 <;> by_cases a2 : (122 : Int) < (s[k].toNat : Int) <;> by_cases a3 : (s[k].toNat : Int) < 48 <;> by_cases a4 : (57 : Int) < (s[k].toNat : Int) <;> cases a5 : ((s[k].toNat : Int) != 95)
                all_goals first
                  | (exfalso; simp at a5; omega)
                  | (clear hcond
                     go_wp2_with fail
                     go_ret
                     exact ⟨ret_bool Hno.out.symm, rfl⟩)
            · have hlt' : ¬ (k : Int) < (s.size : Int) := by omega
              obtain rfl : k = s.size := by omega
              have Hn := hide (name_yes (by omega) (by omega) Hl.out HA.out)
              go_wp2_with fail
              go_loop [53] (fun i => ∃ k : Nat, k ≤ 18 ∧ i = .int .i64 k ∧ Hid (∀ j, j < k → (s.toList == (wordAt j).toList) = false)) (fun i => 18 - (intOf i).toNat)
              case atStart => exact ⟨0, Nat.zero_le _, rfl, hide (fun j hj => absurd hj (by omega))⟩
              case round =>
                obtain ⟨k, hk2, rfl, HW⟩ := hrel
                by_cases hlt2 : k < 18
                · have hlt2' : (k : Int) < 18 := by omega
                  have hix := words_idx k hlt2
                  unfold wordsA at hix
                  cases he : s.toList == (wordAt k).toList
                  · have HW2 : Hid (∀ j, j < k + 1 → (s.toList == (wordAt j).toList) = false) := hide (fun j hj => by
                      rcases Nat.lt_or_ge j k with h | h
                      · exact HW.out j h
                      · obtain rfl : j = k := by omega
                        exact he)
                    generalize wordAt k = wk at *
                    go_wp2_with fail
                    go_round
                    case rel => exact ⟨k + 1, by omega, by go_num, HW2⟩
                    case measure => simp [intOf]; omega
                  · have Hfin : Hid (nameB s = false) := hide (by rw [Hn.out, word_hit hlt2 he]; rfl)
                    generalize wordAt k = wk at *
                    go_wp2_with fail
                    go_ret
                    exact ⟨ret_bool Hfin.out.symm, rfl⟩
                · have hlt2' : ¬ (k : Int) < 18 := by omega
                  have Hfin : Hid (nameB s = true) := hide (by rw [Hn.out, word_none (fun j hj => HW.out j (by omega))]; rfl)
                  go_wp2_with fail
                  go_ret
                  exact ⟨ret_bool Hfin.out.symm, rfl⟩
end Go.Proofs.Ytddbplgcglgloaa.Dom
