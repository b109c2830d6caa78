/- parrylaw11's ring, light and awake. -/
import Derived.Test.YtnecihnhlkaajaaPForceR
namespace Go.Proofs.Ytnecihnhlkaajaa.Gr
open Go.RowKit
open Go.Sort (grow)
set_option linter.unusedSimpArgs false
set_option linter.unusedVariables false

def RowBAt (w : World) (B b o : Nat) (l : List Bool) : Prop := ∃ s : SL, w.cell? ⟨b, o, none⟩ = some s.v ∧ RB w B s l
abbrev RRb (w : World) (B : Nat) (s : SL) (l : List (List Bool)) : Prop := Rows RowBAt w B s l
theorem RowBAt.below {w w' : World} {B b o : Nat} {l : List Bool} (h : RowBAt w B b o l) (hb : Below B w w') (h1 : b < B) : RowBAt w' B b o l := by
  obtain ⟨s, hc, hr⟩ := h
  exact ⟨s, (hb.cell (by exact h1)).trans hc, hr.below hb⟩
theorem RRb.below {w w' : World} {B : Nat} {s : SL} {l : List (List Bool)} (h : RRb w B s l) (hb : Below B w w') : RRb w' B s l := h.keep fun b o x h1 hx => hx.below hb h1
theorem RRb.at_ {w : World} {B : Nat} {l : List (List Bool)} {A : Option Addr} {n c k : Nat} (h : RRb w B ⟨A, n, c⟩ l) (hk : k < n) : ∃ b off x A2 n2 c2, A = some ⟨b, off, none⟩ ∧ b < B ∧ l[k]? = some x ∧ w.cell? ⟨b, off + k, none⟩ = some (.slice A2 n2 c2) ∧ RB w B ⟨A2, n2, c2⟩ x := by
  obtain ⟨b, off, x, h1, h2, h3, ⟨A2, n2, c2⟩, h4, h5⟩ := Rows.at_ h hk
  exact ⟨b, off, x, A2, n2, c2, h1, h2, h3, h4, h5⟩
theorem rrb_one {w : World} {b : Nat} {A : Option Addr} {n c : Nat} {l : List Bool} (h : w.heap[b]? = some (.cells #[.slice A n c] 26)) (hr : RB w w.heap.size ⟨A, n, c⟩ l) : RRb w w.heap.size ⟨some ⟨b, 0, none⟩, 1, 1⟩ [l] :=
  ⟨rfl, Nat.le_refl _, by show 1 ≤ maxLen; unfold maxLen; omega, fun _ => ⟨b, 0, rfl, (Array.getElem?_eq_some_iff.1 h).1, fun k x hx => by
    have hk : k = 0 := by have := (List.getElem?_eq_some_iff.1 hx).1; simp at this; omega
    subst hk
    simp at hx; subst hx
    exact ⟨⟨A, n, c⟩, by show w.cell? ⟨b, 0, none⟩ = _; exact cell_blk h rfl, hr⟩⟩, fun h => by cases h⟩
theorem rrb_two {w : World} {b : Nat} {A A2 : Option Addr} {n c n2 c2 : Nat} {l l2 : List Bool} (h : w.heap[b]? = some (.cells #[.slice A n c, .slice A2 n2 c2] 26)) (hr : RB w w.heap.size ⟨A, n, c⟩ l) (hr2 : RB w w.heap.size ⟨A2, n2, c2⟩ l2) : RRb w w.heap.size ⟨some ⟨b, 0, none⟩, 2, 2⟩ [l, l2] :=
  ⟨rfl, Nat.le_refl _, by show 2 ≤ maxLen; unfold maxLen; omega, fun _ => ⟨b, 0, rfl, (Array.getElem?_eq_some_iff.1 h).1, fun k x hx => by
    have hk : k = 0 ∨ k = 1 := by have := (List.getElem?_eq_some_iff.1 hx).1; simp at this; omega
    rcases hk with rfl | rfl
    · simp at hx; subst hx
      exact ⟨⟨A, n, c⟩, by show w.cell? ⟨b, 0, none⟩ = _; exact cell_blk h rfl, hr⟩
    · simp at hx; subst hx
      exact ⟨⟨A2, n2, c2⟩, by show w.cell? ⟨b, 1, none⟩ = _; exact cell_blk h rfl, hr2⟩⟩, fun h => by cases h⟩
def lightB (g : GT) (ls : List (List Bool)) : Bool := ls.all (fun r => decide (r.length ≤ 300)) && (hvG g == 0)
theorem light_any (B : Nat) (OA NA : Option Addr) (on oc nn nc : Nat) (g : GT) (A : Option Addr) (n c : Nat) (ls : List (List Bool)) (w : World) (hB : B ≤ w.heap.size) (hg : RG w B ⟨OA, on, oc⟩ ⟨NA, nn, nc⟩ g) (hr : RRb w B ⟨A, n, c⟩ ls) :
    Calls Try.prog 7 #[.agg #[.slice OA on oc, .slice NA nn nc], .slice A n c] w fun e w' => e = .returned (.bool (lightB g ls)) ∧ Below w.heap.size w w' := by
  have hbx : Below w.heap.size w (w.alloc (.cells #[.slice OA on oc, .slice NA nn nc] 25)) := (Below.refl _ _).alloc (Nat.le_refl _) _
  have hz0 : w.heap.size + 1 ≤ (w.alloc (.cells #[.slice OA on oc, .slice NA nn nc] 25)).heap.size := by simp
  have Hg := hide (hg.below (hbx.mono hB))
  have Hr := hide (hr.below (hbx.mono hB))
  have Hl := hide hr.len
  have hn : n ≤ 2 ^ 63 - 1 := Nat.le_trans hr.2.1 hr.2.2.1
  have Hbox := hide (box_new w OA NA on oc nn nc 25)
  have HD : Hid (lightB g ls = (ls.all (fun r => decide (r.length ≤ 300)) && (hvG g == 0))) := hide rfl
  clear hg hr
  go_enter Try.func7, Try.ntmps7
  go_wp2_with fail
  generalize w.alloc (.cells #[.slice OA on oc, .slice NA nn nc] 25) = w1 at *
  obtain ⟨c0, c1⟩ := Hbox.out
  simp only [SL.v] at c0 c1
  go_loopw [9] (fun i wr => ∃ k : Nat, k ≤ n ∧ i = .int .i64 k ∧ Hid ((ls.drop k).all (fun r => decide (r.length ≤ 300)) = ls.all (fun r => decide (r.length ≤ 300))) ∧ wr = w1) (fun i _ => n - (intOf i).toNat)
  case atStart => exact ⟨0, Nat.zero_le _, rfl, hide rfl, rfl⟩
  case round =>
    obtain ⟨k, hk, rfl, HT, rfl⟩ := hrel
    by_cases hlt : k < n
    · have hlt' : (k : Int) < (n : Int) := by omega
      obtain ⟨b, off, x, A2, n2, c2, rfl, hb, hx, hc, hri⟩ := Hr.out.at_ hlt
      have Hd : Hid ((decide (x.length ≤ 300) && (ls.drop (k + 1)).all (fun r => decide (r.length ≤ 300))) = ls.all (fun r => decide (r.length ≤ 300))) := hide (by rw [← HT.out, drop_at hx, List.all_cons])
      have hxl := hri.len
      simp only at hxl
      rw [hxl] at Hd
      clear hx hri hxl
      by_cases h3 : 300 < n2
      · have h3' : (300 : Int) < (n2 : Int) := by omega
        have Hf : Hid (lightB g ls = false) := hide (by rw [HD.out, ← Hd.out, decide_eq_false (by omega)]; rfl)
        go_wp2_with fail
        go_ret
        exact ⟨ret_bool Hf.out.symm, hbx⟩
      · have h3' : ¬ (300 : Int) < (n2 : Int) := by omega
        have Hon : Hid ((ls.drop (k + 1)).all (fun r => decide (r.length ≤ 300)) = ls.all (fun r => decide (r.length ≤ 300))) := hide (by rw [← Hd.out, decide_eq_true (by omega)]; rfl)
        go_wp2_with fail
        go_roundw
        case rel => exact ⟨k + 1, by omega, by go_num, Hon, by trivial⟩
        case measure => simp [intOf]; omega
    · have hlt' : ¬ (k : Int) < (n : Int) := by omega
      have Hf : Hid (lightB g ls = (hvG g == 0)) := hide (by rw [HD.out, ← HT.out, List.drop_of_length_le (by rw [Hl.out]; exact Nat.le_of_not_lt hlt)]; rfl)
      go_wp2_with fail
      refine (heavy_any B OA NA on oc nn nc g _ (by omega) Hg.out).mono ?_
      rintro e w3 ⟨rfl, hb3⟩
      go_wp2_with fail
      go_ret
      exact ⟨ret_bool Hf.out.symm, hbx.trans (hb3.mono (by omega))⟩
theorem light_facts {g : GT} {ls : List (List Bool)} (h : lightB g ls = true) : (∀ r ∈ ls, r.length ≤ 300) ∧ hvG g = 0 := by
  unfold lightB at h
  rw [Bool.and_eq_true, List.all_eq_true] at h
  exact ⟨fun r hr => of_decide_eq_true (h.1 r hr), by simpa using h.2⟩
def gR : GT := ⟨[0, 1, 1], [[1, 2], [0], []]⟩
theorem may_R : mayG gR = 0 := by decide +kernel
theorem force_R0 : forceL gR 0 [false, false, true] = [true, false, true] := by decide +kernel
theorem force_R1 : forceL gR 1 [true] = [false, true, false] := by decide +kernel
theorem count_R : countL 3 [true, false, true] = 2 := by decide +kernel
def RingPost (w : World) (e : Ending) (w' : World) : Prop := ∃ (OA NA : Option Addr), e = .returned (.agg #[.slice OA 3 3, .slice NA 3 3]) ∧ RG w' w'.heap.size ⟨OA, 3, 3⟩ ⟨NA, 3, 3⟩ gR ∧ Below w.heap.size w w'
theorem blk6 (w : World) (a b c d e f : Obj) : let W := (((((w.alloc a).alloc b).alloc c).alloc d).alloc e).alloc f
    W.heap[w.heap.size]? = some a ∧ W.heap[w.heap.size + 1]? = some b ∧ W.heap[w.heap.size + 1 + 1]? = some c ∧ W.heap[w.heap.size + 1 + 1 + 1]? = some d ∧ W.heap[w.heap.size + 1 + 1 + 1 + 1]? = some e ∧ W.heap[w.heap.size + 1 + 1 + 1 + 1 + 1]? = some f ∧ Below w.heap.size w W := by
  have s1 := size_al w a
  have s2 := (size_al (w.alloc a) b).trans (by rw [s1])
  have s3 := (size_al ((w.alloc a).alloc b) c).trans (by rw [s2])
  have s4 := (size_al (((w.alloc a).alloc b).alloc c) d).trans (by rw [s3])
  have s5 := (size_al ((((w.alloc a).alloc b).alloc c).alloc d) e).trans (by rw [s4])
  refine ⟨?_, ?_, ?_, ?_, ?_, ?_, ?_⟩
  · rw [Below.heap_alloc _ _ _ (by rw [s5]; omega), Below.heap_alloc _ _ _ (by rw [s4]; omega), Below.heap_alloc _ _ _ (by rw [s3]; omega), Below.heap_alloc _ _ _ (by rw [s2]; omega), Below.heap_alloc _ _ _ (by rw [s1]; omega)]; exact new_at rfl
  · rw [Below.heap_alloc _ _ _ (by rw [s5]; omega), Below.heap_alloc _ _ _ (by rw [s4]; omega), Below.heap_alloc _ _ _ (by rw [s3]; omega), Below.heap_alloc _ _ _ (by rw [s2]; omega)]; exact new_at s1
  · rw [Below.heap_alloc _ _ _ (by rw [s5]; omega), Below.heap_alloc _ _ _ (by rw [s4]; omega), Below.heap_alloc _ _ _ (by rw [s3]; omega)]; exact new_at s2
  · rw [Below.heap_alloc _ _ _ (by rw [s5]; omega), Below.heap_alloc _ _ _ (by rw [s4]; omega)]; exact new_at s3
  · rw [Below.heap_alloc _ _ _ (by rw [s5]; omega)]; exact new_at s4
  · exact new_at s5
  · exact ((((((Below.refl _ _).alloc (Nat.le_refl _) _).alloc (by rw [s1]; omega) _).alloc (by rw [s2]; omega) _).alloc (by rw [s3]; omega) _).alloc (by rw [s4]; omega) _).alloc (by rw [s5]; omega) _
def ints (l : List Int) : List Value := l.map fun x => .int .i64 x
theorem ri_blk {w : World} {b : Nat} {l : List Int} {f : Nat × Nat} {n : Nat} (h : w.heap[b]? = some (.cells (ints l).toArray 3 f)) (hn : l.length = n) (hm : n ≤ maxLen) : RI w w.heap.size ⟨some ⟨b, 0, none⟩, n, n⟩ l :=
  ⟨hn, Nat.le_refl _, hm, fun _ => ⟨b, 0, rfl, (Array.getElem?_eq_some_iff.1 h).1, fun k x hx => by
    show w.cell? ⟨b, 0 + k, none⟩ = _
    rw [Nat.zero_add]
    simp [World.cell?, h, ints, hx]⟩, fun h => by cases h⟩
theorem ring_any (w : World) : Calls Try.prog 19 #[] w (RingPost w) := by
  have h6 := blk6 w (.cells #[.slice (some ⟨w.heap.size + 1, 0, none⟩) 3 3, .slice (some ⟨w.heap.size + 1 + 1 + 1 + 1 + 1, 0, none⟩) 3 3] 25) (.cells #[.int .i64 0, .int .i64 1, .int .i64 1] 3) (.cells #[.int .i64 1, .int .i64 2] 3) (.cells #[.int .i64 0] 3) (.cells #[] 3) (.cells #[.slice (some ⟨w.heap.size + 1 + 1, 0, none⟩) 2 2, .slice (some ⟨w.heap.size + 1 + 1 + 1, 0, none⟩) 1 1, .slice (some ⟨w.heap.size + 1 + 1 + 1 + 1, 0, none⟩) 0 0] 22)
  have H6 := hide h6
  clear h6
  go_enter Try.func19, Try.ntmps19
  go_wp2_with fail
  obtain ⟨h0, h1, h2, h3, h4, h5, hb⟩ := H6.out
  clear H6
  generalize (((((w.alloc (.cells #[.slice (some ⟨w.heap.size + 1, 0, none⟩) 3 3, .slice (some ⟨w.heap.size + 1 + 1 + 1 + 1 + 1, 0, none⟩) 3 3] 25)).alloc (.cells #[.int .i64 0, .int .i64 1, .int .i64 1] 3)).alloc (.cells #[.int .i64 1, .int .i64 2] 3)).alloc (.cells #[.int .i64 0] 3)).alloc (.cells #[] 3)).alloc (.cells #[.slice (some ⟨w.heap.size + 1 + 1, 0, none⟩) 2 2, .slice (some ⟨w.heap.size + 1 + 1 + 1, 0, none⟩) 1 1, .slice (some ⟨w.heap.size + 1 + 1 + 1 + 1, 0, none⟩) 0 0] 22) = W at *
  have s0 := cell_blk (i := 0) h0 rfl
  have s1 := cell_blk (i := 1) h0 rfl
  refine bodyPost_ret (v := .agg #[.slice (some ⟨w.heap.size + 1, 0, none⟩) 3 3, .slice (some ⟨w.heap.size + 1 + 1 + 1 + 1 + 1, 0, none⟩) 3 3]) (by simp [results, Try.results19, go_sem, s0, s1]) rfl ?_
  refine ⟨_, _, rfl, ⟨ri_blk (l := [0, 1, 1]) h1 rfl (by unfold maxLen; omega), rfl, Nat.le_refl _, by show 3 ≤ maxLen; unfold maxLen; omega, fun _ => ⟨_, 0, rfl, (Array.getElem?_eq_some_iff.1 h5).1, fun k x hx => ?_⟩, fun h => by cases h⟩, hb⟩
  have hk : k = 0 ∨ k = 1 ∨ k = 2 := by
    have := (List.getElem?_eq_some_iff.1 hx).1
    simp [gR] at this; omega
  rcases hk with rfl | rfl | rfl
  · simp [gR] at hx; subst hx
    exact ⟨⟨some ⟨w.heap.size + 1 + 1, 0, none⟩, 2, 2⟩, cell_blk h5 rfl, ri_blk (l := [1, 2]) h2 rfl (by unfold maxLen; omega)⟩
  · simp [gR] at hx; subst hx
    exact ⟨⟨some ⟨w.heap.size + 1 + 1 + 1, 0, none⟩, 1, 1⟩, cell_blk h5 rfl, ri_blk (l := [0]) h3 rfl (by unfold maxLen; omega)⟩
  · simp [gR] at hx; subst hx
    exact ⟨⟨some ⟨w.heap.size + 1 + 1 + 1 + 1, 0, none⟩, 0, 0⟩, cell_blk h5 rfl, ri_blk (l := []) h4 rfl (by unfold maxLen; omega)⟩
theorem rb_blk {w : World} {b : Nat} {l : List Bool} {f : Nat × Nat} {n : Nat} (h : w.heap[b]? = some (.cells (l.map Value.bool).toArray 4 f)) (hn : l.length = n) (hm : n ≤ maxLen) : RB w w.heap.size ⟨some ⟨b, 0, none⟩, n, n⟩ l :=
  ⟨hn, Nat.le_refl _, hm, fun _ => ⟨b, 0, rfl, (Array.getElem?_eq_some_iff.1 h).1, fun k x hx => by
    show w.cell? ⟨b, 0 + k, none⟩ = _
    rw [Nat.zero_add]
    simp [World.cell?, h, hx]⟩, fun h => by cases h⟩
theorem row3 {w : World} {B : Nat} {A : Option Addr} {n c : Nat} {x y z : Bool} (h : RB w B ⟨A, n, c⟩ [x, y, z]) : n = 3 ∧ ∃ b off, A = some ⟨b, off, none⟩ ∧ b < B ∧ w.cell? ⟨b, off, none⟩ = some (.bool x) ∧ w.cell? ⟨b, off + 1, none⟩ = some (.bool y) ∧ w.cell? ⟨b, off + 2, none⟩ = some (.bool z) := by
  have hn := h.len
  simp only [List.length_cons, List.length_nil] at hn
  obtain ⟨b, off, e, hb, hc⟩ := h.2.2.2.1 (by show 0 < n; omega)
  exact ⟨by omega, b, off, e, hb, hc 0 _ rfl, hc 1 _ rfl, hc 2 _ rfl⟩
set_option maxHeartbeats 1000000 in
theorem awake_any (w : World) : Calls Try.prog 8 #[] w fun e w' => e = .returned (.bool true) ∧ Below w.heap.size w w' := by
  go_enter Try.func8, Try.ntmps8
  go_wp2_with fail
  refine (ring_any w).mono ?_
  rintro e w1 ⟨OA, NA, rfl, hg, hb1⟩
  have hz1 := hb1.size
  have Hb1 := hide hb1
  have b2 := new_at (w := w1) (o := .cells #[.bool false, .bool false, .bool true] 4) rfl
  have hba : Below w1.heap.size w1 (w1.alloc (.cells #[.bool false, .bool false, .bool true] 4)) := (Below.refl _ _).alloc (Nat.le_refl _) _
  have Hr1 := hide (rb_blk (l := [false, false, true]) b2 rfl (by simp [maxLen]))
  have Hg1 := hide ((hg.below hba).more hba.size)
  have Hba := hide (hb1.trans (hba.mono hz1))
  clear hg b2 hba hb1
  go_wp2_with fail
  generalize w1.alloc (.cells #[.bool false, .bool false, .bool true] 4) = w2 at *
  refine (dforce_any _ OA NA 3 3 3 3 gR 0 _ 3 3 _ w2 (Nat.le_refl _) Hg1.out Hr1.out).mono ?_
  rintro e w3 ⟨⟨aA, an, ac⟩, rfl, ha, hb3⟩
  rw [force_R0] at ha
  have Hb3 := hide (Hba.out.trans (hb3.mono Hba.out.size))
  have Ha := hide ha
  clear hb3 ha Hba Hr1 Hg1
  simp only [SL.v]
  go_wp2_with fail
  refine (ring_any w3).mono ?_
  rintro e w4 ⟨OA2, NA2, rfl, hg4, hb4⟩
  have hz4 := hb4.size
  have b5 := new_at (w := w4) (o := .cells #[.bool true] 4) rfl
  have hbb : Below w4.heap.size w4 (w4.alloc (.cells #[.bool true] 4)) := (Below.refl _ _).alloc (Nat.le_refl _) _
  have Hr5 := hide (rb_blk (l := [true]) b5 rfl (by simp [maxLen]))
  have Hg5 := hide ((hg4.below hbb).more hbb.size)
  have hb45 := hb4.trans (hbb.mono hz4)
  have Hb5 := hide (Hb3.out.trans (hb45.mono Hb3.out.size))
  have Ha5 := hide ((Ha.out.below hb45).more hb45.size)
  clear hg4 b5 hbb hb4 hb45 Ha Hb3
  go_wp2_with fail
  generalize w4.alloc (.cells #[.bool true] 4) = w5 at *
  refine (dforce_any _ OA2 NA2 3 3 3 3 gR 1 _ 1 1 _ w5 (Nat.le_refl _) Hg5.out Hr5.out).mono ?_
  rintro e w6 ⟨⟨dA, dn, dc⟩, rfl, hd, hb6⟩
  rw [force_R1] at hd
  have Ha6 := hide ((Ha5.out.below hb6).more hb6.size)
  have Hb6 := hide (Hb5.out.trans (hb6.mono Hb5.out.size))
  clear hb6 Ha5 Hb5 Hg5 Hr5
  obtain ⟨rfl, ba, oa, rfl, hab, a0, a1, a2⟩ := row3 Ha6.out
  obtain ⟨rfl, bd, od, rfl, hdb, d0, d1, d2⟩ := row3 hd
  clear hd
  simp only [SL.v]
  go_wp2_with fail
  refine (ring_any w6).mono ?_
  rintro e w7 ⟨OA3, NA3, rfl, hg7, hb7⟩
  have Hb7 := hide (Hb6.out.trans (hb7.mono Hb6.out.size))
  have Ha7 := hide ((Ha6.out.below hb7).more hb7.size)
  clear hb7
  go_wp2_with fail
  refine (dcount_any _ OA3 NA3 3 3 3 3 gR _ 3 ac _ w7 (Nat.le_refl _) hg7 Ha7.out).mono ?_
  rintro e w8 ⟨rfl, hb8⟩
  rw [count_R]
  go_wp2_with fail
  go_ret
  exact ⟨rfl, Hb7.out.trans (hb8.mono Hb7.out.size)⟩
end Go.Proofs.Ytnecihnhlkaajaa.Gr
