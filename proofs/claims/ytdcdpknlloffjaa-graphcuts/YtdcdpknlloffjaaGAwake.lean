/- What every program must know: the walk of awake. -/
import Derived.Test.YtdcdpknlloffjaaGCuts
import Derived.Deep.RegionHeld3
import Derived.Deep.CutRange
namespace Go.Proofs.Ytdcdpknlloffjaa.Gr
open Go.RowKit
set_option linter.unusedSimpArgs false
set_option linter.unusedVariables false

def gA : GT := ⟨[0, 1], [[1], []]⟩
theorem may_A : mayG gA = 0 := by decide +kernel
theorem bef_A : befL gA = [[], [0]] := by decide +kernel
theorem dead_A : deadL gA 1 = [false, true] := by decide +kernel
theorem reach_A : reachL gA [true] = [true, true] := by
  have h0 : Rch gA.nxt (fun v => [true].getD v false) gA.own.length 0 := .base (by decide) rfl
  have h1 : Rch gA.nxt (fun v => [true].getD v false) gA.own.length 1 := .step h0 (r := [1]) rfl (by decide)
  unfold reachL
  rw [if_pos may_A]
  show [reachAt gA _ 0, reachAt gA _ 1] = _
  unfold reachAt
  rw [@decide_eq_true _ (Classical.propDecidable _) h0, @decide_eq_true _ (Classical.propDecidable _) h1]
/- contracts that speak of one world W, behind which all is new -/
section
variable {W X : World} {B : Nat} {OA NA : Option Addr} {on oc nn nc : Nat} {g : GT}
theorem reach_w {A : Option Addr} {n c : Nat} {l : List Bool} (hB : B ≤ W.heap.size) (hg : RG W B ⟨OA, on, oc⟩ ⟨NA, nn, nc⟩ g) (hX : Below W.heap.size W X) (hr : RB X X.heap.size ⟨A, n, c⟩ l) :
    Calls Try.prog 18 #[.agg #[.slice OA on oc, .slice NA nn nc], .slice A n c] X fun e w' => ∃ A2 n2 c2, e = .returned (.slice A2 n2 c2) ∧ Hid (RB w' w'.heap.size ⟨A2, n2, c2⟩ (reachL g l)) ∧ Hid (Below X.heap.size X w') ∧ Hid (Below W.heap.size W w') :=
  (dreach_any X.heap.size OA NA on oc nn nc g A n c l X (Nat.le_refl _) ((hg.below (hX.mono hB)).more (Nat.le_trans hB hX.size)) hr).mono fun e w' ⟨⟨A2, n2, c2⟩, he, h1, h2⟩ => ⟨A2, n2, c2, he, hide h1, hide h2, hide (hX.trans (h2.mono hX.size))⟩
theorem dead_w {who : Int} (hB : B ≤ W.heap.size) (hg : RG W B ⟨OA, on, oc⟩ ⟨NA, nn, nc⟩ g) (hX : Below W.heap.size W X) :
    Calls Try.prog 20 #[.agg #[.slice OA on oc, .slice NA nn nc], .int .i64 who] X fun e w' => ∃ A2 n2 c2, e = .returned (.slice A2 n2 c2) ∧ Hid (RB w' w'.heap.size ⟨A2, n2, c2⟩ (deadL g who)) ∧ Hid (Below X.heap.size X w') ∧ Hid (Below W.heap.size W w') :=
  (ddead_any B OA NA on oc nn nc g who X (Nat.le_trans hB hX.size) (hg.below (hX.mono hB))).mono fun e w' ⟨⟨A2, n2, c2⟩, he, h1, h2⟩ => ⟨A2, n2, c2, he, hide h1, hide h2, hide (hX.trans (h2.mono hX.size))⟩
theorem keep2 {w' : World} {b : Nat} {v0 v1 : Value} (hs : Below W.heap.size W w') (hb : b < W.heap.size) (c0 : W.cell? ⟨b, 0, none⟩ = some v0) (c1 : W.cell? ⟨b, 1, none⟩ = some v1) : w'.cell? ⟨b, 0, none⟩ = some v0 ∧ w'.cell? ⟨b, 1, none⟩ = some v1 :=
  ⟨(hs.cell (p := ⟨b, 0, none⟩) hb).trans c0, (hs.cell (p := ⟨b, 1, none⟩) hb).trans c1⟩
end
theorem ri_blk {w : World} {b : Nat} {l : List Int} {f : Nat × Nat} {n : Nat} (h : w.heap[b]? = some (.cells (ints l).toArray 3 f)) (hn : l.length = n) (hm : n ≤ maxLen) : RI w w.heap.size ⟨some ⟨b, 0, none⟩, n, n⟩ l :=
  ⟨hn, Nat.le_refl _, hm, fun _ => ⟨b, 0, rfl, (Array.getElem?_eq_some_iff.1 h).1, fun k x hx => by
    show w.cell? ⟨b, 0 + k, none⟩ = _
    rw [Nat.zero_add]
    simp [World.cell?, h, ints, hx]⟩, fun h => by cases h⟩
theorem rb_lit (w : World) : RB (w.alloc (.cells #[.bool true] 4)) (w.alloc (.cells #[.bool true] 4)).heap.size ⟨some ⟨w.heap.size, 0, none⟩, 1, 1⟩ [true] := by
  have h := heap_alloc_new w (.cells #[.bool true] 4)
  generalize w.alloc (.cells #[.bool true] 4) = w2 at *
  exact ⟨rfl, Nat.le_refl _, by show 1 ≤ maxLen; unfold maxLen; omega, fun _ => ⟨w.heap.size, 0, rfl, (Array.getElem?_eq_some_iff.1 h).1, fun k x hx => by
    have hk : k = 0 := by
      have := (List.getElem?_eq_some_iff.1 hx).1
      simp at this; omega
    subst hk
    simp at hx; subst hx
    show w2.cell? ⟨w.heap.size, 0, none⟩ = _
    simp [World.cell?, h]⟩, fun h => by cases h⟩
theorem blk5 (w : World) (a b c d e : Obj) : (((((w.alloc a).alloc b).alloc c).alloc d).alloc e).heap[w.heap.size]? = some a ∧ (((((w.alloc a).alloc b).alloc c).alloc d).alloc e).heap[w.heap.size + 1]? = some b ∧ (((((w.alloc a).alloc b).alloc c).alloc d).alloc e).heap[w.heap.size + 1 + 1]? = some c ∧
    (((((w.alloc a).alloc b).alloc c).alloc d).alloc e).heap[w.heap.size + 1 + 1 + 1]? = some d ∧ (((((w.alloc a).alloc b).alloc c).alloc d).alloc e).heap[w.heap.size + 1 + 1 + 1 + 1]? = some e ∧ (((((w.alloc a).alloc b).alloc c).alloc d).alloc e).heap.size = w.heap.size + 1 + 1 + 1 + 1 + 1 := by
  have s1 := size_al w a
  have s2 := (size_al (w.alloc a) b).trans (by rw [s1])
  have s3 := (size_al ((w.alloc a).alloc b) c).trans (by rw [s2])
  have s4 := (size_al (((w.alloc a).alloc b).alloc c) d).trans (by rw [s3])
  have s5 := (size_al ((((w.alloc a).alloc b).alloc c).alloc d) e).trans (by rw [s4])
  refine ⟨?_, ?_, ?_, ?_, ?_, s5⟩
  · rw [Below.heap_alloc _ _ _ (by rw [s4]; omega), Below.heap_alloc _ _ _ (by rw [s3]; omega), Below.heap_alloc _ _ _ (by rw [s2]; omega), Below.heap_alloc _ _ _ (by rw [s1]; omega)]; exact new_at rfl
  · rw [Below.heap_alloc _ _ _ (by rw [s4]; omega), Below.heap_alloc _ _ _ (by rw [s3]; omega), Below.heap_alloc _ _ _ (by rw [s2]; omega)]; exact new_at s1
  · rw [Below.heap_alloc _ _ _ (by rw [s4]; omega), Below.heap_alloc _ _ _ (by rw [s3]; omega)]; exact new_at s2
  · rw [Below.heap_alloc _ _ _ (by rw [s4]; omega)]; exact new_at s3
  · exact new_at s4
abbrev litG (w : World) : World := (((((w.alloc (.cells #[.int .i64 0, .int .i64 1] 3)).alloc (.cells #[.int .i64 1] 3)).alloc (.cells #[] 3)).alloc (.cells #[.slice (some ⟨w.heap.size + 1, 0, none⟩) 1 1, .slice (some ⟨w.heap.size + 1 + 1, 0, none⟩) 0 0] 22)).alloc (.cells #[.slice (some ⟨w.heap.size, 0, none⟩) 2 2, .slice (some ⟨w.heap.size + 1 + 1 + 1, 0, none⟩) 2 2] 25))
theorem lit_rg (w : World) : RG (litG w) (litG w).heap.size ⟨some ⟨w.heap.size, 0, none⟩, 2, 2⟩ ⟨some ⟨w.heap.size + 1 + 1 + 1, 0, none⟩, 2, 2⟩ gA := by
  obtain ⟨h0, h1, h2, h3, _, hs⟩ := blk5 w (.cells #[.int .i64 0, .int .i64 1] 3) (.cells #[.int .i64 1] 3) (.cells #[] 3) (.cells #[.slice (some ⟨w.heap.size + 1, 0, none⟩) 1 1, .slice (some ⟨w.heap.size + 1 + 1, 0, none⟩) 0 0] 22) (.cells #[.slice (some ⟨w.heap.size, 0, none⟩) 2 2, .slice (some ⟨w.heap.size + 1 + 1 + 1, 0, none⟩) 2 2] 25)
  unfold litG
  generalize (((((w.alloc (.cells #[.int .i64 0, .int .i64 1] 3)).alloc (.cells #[.int .i64 1] 3)).alloc (.cells #[] 3)).alloc (.cells #[.slice (some ⟨w.heap.size + 1, 0, none⟩) 1 1, .slice (some ⟨w.heap.size + 1 + 1, 0, none⟩) 0 0] 22)).alloc (.cells #[.slice (some ⟨w.heap.size, 0, none⟩) 2 2, .slice (some ⟨w.heap.size + 1 + 1 + 1, 0, none⟩) 2 2] 25)) = W at *
  refine ⟨ri_blk (l := [0, 1]) h0 rfl (by unfold maxLen; omega), rfl, Nat.le_refl _, by show 2 ≤ maxLen; unfold maxLen; omega, fun _ => ⟨_, 0, rfl, (Array.getElem?_eq_some_iff.1 h3).1, fun k x hx => ?_⟩, fun h => by cases h⟩
  have hk : k = 0 ∨ k = 1 := by
    have := (List.getElem?_eq_some_iff.1 hx).1
    simp [gA] at this; omega
  rcases hk with rfl | rfl
  · simp [gA] at hx; subst hx
    exact ⟨⟨some ⟨w.heap.size + 1, 0, none⟩, 1, 1⟩, by show W.cell? ⟨w.heap.size + 1 + 1 + 1, 0, none⟩ = _; simp [World.cell?, h3, SL.v], ri_blk (l := [1]) h1 rfl (by unfold maxLen; omega)⟩
  · simp [gA] at hx; subst hx
    exact ⟨⟨some ⟨w.heap.size + 1 + 1, 0, none⟩, 0, 0⟩, by show W.cell? ⟨w.heap.size + 1 + 1 + 1, 1, none⟩ = _; simp [World.cell?, h3, SL.v], ri_blk (l := []) h2 rfl (by unfold maxLen; omega)⟩
theorem row1 {w : World} {B : Nat} {A : Option Addr} {n c : Nat} {x y : Bool} (h : RB w B ⟨A, n, c⟩ [x, y]) : n = 2 ∧ ∃ b off, A = some ⟨b, off, none⟩ ∧ b < B ∧ w.cell? ⟨b, off, none⟩ = some (.bool x) ∧ w.cell? ⟨b, off + 1, none⟩ = some (.bool y) := by
  have hn := h.len
  simp only [List.length_cons, List.length_nil] at hn
  obtain ⟨b, off, e, hb, hc⟩ := h.2.2.2.1 (by show 0 < n; omega)
  exact ⟨by omega, b, off, e, hb, hc 0 _ rfl, hc 1 _ rfl⟩
set_option maxRecDepth 20000 in
set_option maxHeartbeats 2000000 in
theorem awake_any (w : World) : Calls Try.prog 9 #[] w fun e w' => e = .returned (.bool true) ∧ Below w.heap.size w w' := by
  have hg0 := lit_rg w
  obtain ⟨_, _, _, _, h4, hs⟩ := blk5 w (.cells #[.int .i64 0, .int .i64 1] 3) (.cells #[.int .i64 1] 3) (.cells #[] 3) (.cells #[.slice (some ⟨w.heap.size + 1, 0, none⟩) 1 1, .slice (some ⟨w.heap.size + 1 + 1, 0, none⟩) 0 0] 22) (.cells #[.slice (some ⟨w.heap.size, 0, none⟩) 2 2, .slice (some ⟨w.heap.size + 1 + 1 + 1, 0, none⟩) 2 2] 25)
  have hb0 : Below w.heap.size w (litG w) := (((((Below.refl _ _).alloc (Nat.le_refl _) _).alloc (by simp) _).alloc (by simp; omega) _).alloc (by simp; omega) _).alloc (by simp; omega) _
  have Hg0 := hide hg0
  have H4 := hide h4
  have Hs := hide hs
  have Hb0 := hide hb0
  clear hg0 h4 hs hb0
  go_enter Try.func9, Try.ntmps9
  go_wp2_with fail
  unfold litG at Hg0 Hb0
  generalize (((((w.alloc (.cells #[.int .i64 0, .int .i64 1] 3)).alloc (.cells #[.int .i64 1] 3)).alloc (.cells #[] 3)).alloc (.cells #[.slice (some ⟨w.heap.size + 1, 0, none⟩) 1 1, .slice (some ⟨w.heap.size + 1 + 1, 0, none⟩) 0 0] 22)).alloc (.cells #[.slice (some ⟨w.heap.size, 0, none⟩) 2 2, .slice (some ⟨w.heap.size + 1 + 1 + 1, 0, none⟩) 2 2] 25)) = w1 at *
  obtain ⟨gb, hgb⟩ : ∃ gb, gb = w.heap.size + 1 + 1 + 1 + 1 := ⟨_, rfl⟩
  have hgl : gb < w1.heap.size := by rw [hgb, Hs.out]; omega
  rw [← hgb] at H4 ⊢
  have Hgl := hide hgl
  have hzw : w.heap.size ≤ w1.heap.size := by rw [Hs.out]; omega
  generalize hO : some (⟨w.heap.size, 0, none⟩ : Addr) = OA at *
  generalize hN : some (⟨w.heap.size + 1 + 1 + 1, 0, none⟩ : Addr) = NA at *
  clear hO hN hgb Hs
  refine (dbef_any w1.heap.size OA NA 2 2 2 2 gA w1 (Nat.le_refl _) Hg0.out).mono ?_
  rintro e W ⟨⟨lA, ln, lc⟩, rfl, hnl, hbW⟩
  have hzW := hbW.size
  have hrr := hnl.rr
  rw [bef_A] at hrr
  have Hrr := hide hrr
  have Hg := hide (Hg0.out.below hbW)
  have hgb1 : gb < W.heap.size := by omega
  have Hbw := hide (Hb0.out.trans (hbW.mono hzw))
  have q0 : W.cell? ⟨gb, 0, none⟩ = some (.slice OA 2 2) := (hbW.cell (p := ⟨gb, 0, none⟩) hgl).trans (by simp [World.cell?, H4.out])
  have q1 : W.cell? ⟨gb, 1, none⟩ = some (.slice NA 2 2) := (hbW.cell (p := ⟨gb, 1, none⟩) hgl).trans (by simp [World.cell?, H4.out])
  have hln := hrr.len
  simp only [List.length_cons, List.length_nil] at hln
  obtain rfl : ln = 2 := by omega
  clear hbW hnl Hg0 Hb0 H4 hgl Hgl hrr hln
  simp only [SL.v]
  have hzg : w1.heap.size ≤ W.heap.size := hzW
  go_wp2_with fail
  go_upto_region 3 with fail
  go_cut [3, 4] from 12 to 16 (fun s3 s4 wx => ∃ (A1 : Option Addr) (n1 c1 : Nat) (A2 : Option Addr) (n2 c2 : Nat), s3 = .slice A1 n1 c1 ∧ s4 = .slice A2 n2 c2 ∧ Hid (RB wx wx.heap.size ⟨A1, n1, c1⟩ (reachL gA [true])) ∧ Hid (RB wx wx.heap.size ⟨A2, n2, c2⟩ (deadL gA 1)) ∧ Hid (Below W.heap.size W wx))
  case first =>
    go_region_held3 (fun w' => w'.cell? ⟨gb, 0, none⟩ = some (.slice OA 2 2) ∧ w'.cell? ⟨gb, 1, none⟩ = some (.slice NA 2 2))
      (first | go_keep | exact keep2 (by repeat (first | exact Hid.out (by assumption) | exact Below.refl _ _ | refine Below.drew ?_ | refine Below.alloc ?_ (by first | omega | (simp; done) | (simp; omega)) _)) hgb1 q0 q1)
      (first
        | (go_at_call 18; refine (reach_w (W := W) hzg Hg.out (by repeat (first | exact Hid.out (by assumption) | exact Below.refl _ _ | refine Below.drew ?_ | refine Below.alloc ?_ (by first | omega | (simp; done) | (simp; omega)) _)) (by first | exact rb_lit W | exact ((rb_lit W).below (Hid.out hbD)).more (Hid.out hbD).size | exact rb_lit _)).mono ?_; rintro e wR ⟨A1, n1, c1, rfl, hr1, hbR, hsR⟩; have hzR := hsR.out.size)
        | (go_at_call 20; refine (dead_w (W := W) hzg Hg.out (by repeat (first | exact Hid.out (by assumption) | exact Below.refl _ _ | refine Below.drew ?_ | refine Below.alloc ?_ (by first | omega | (simp; done) | (simp; omega)) _))).mono ?_; rintro e wD ⟨A2, n2, c2, rfl, hd1, hbD, hsD⟩; have hzD := hsD.out.size))
    all_goals (go_wp2_with fail)
    all_goals go_meet
    all_goals first
      | exact ⟨_, _, _, _, _, _, rfl, rfl, hide ((hr1.out.below hbD.out).more hbD.out.size), hd1, hsD⟩
      | exact ⟨_, _, _, _, _, _, rfl, rfl, hr1, hide ((hd1.out.below hbR.out).more hbR.out.size), hsR⟩
      | exact ⟨_, _, _, _, _, _, rfl, rfl, hr1, hide ((hd1.out.below ((((Below.refl _ _).alloc (Nat.le_refl _) _)).trans (hbR.out.mono (by simp)))).more (Nat.le_trans (by simp) hbR.out.size)), hsR⟩
  case rest =>
    obtain ⟨A1, n1, k1, A2, n2, k2, rfl, rfl, HR, HD, HW⟩ := hcut
    rw [reach_A] at HR
    rw [dead_A] at HD
    obtain ⟨c0', c1'⟩ := keep2 HW.out hgb1 q0 q1
    have hzc := HW.out.size
    have Hgc := hide (Hg.out.below (HW.out.mono hzW))
    have Hrc := hide ((Hrr.out.below HW.out).more hzc)
    go_wp2_with fail
    refine (may_any w1.heap.size OA NA 2 2 2 2 gA wc (by omega) Hgc.out).mono ?_
    rintro e w9 ⟨rfl, hb9⟩
    rw [may_A]
    obtain ⟨rfl, b1, o1, rfl, hb1, r0, r1⟩ := row1 (HR.out.below hb9)
    obtain ⟨rfl, b2, o2, rfl, hb2, d0, d1⟩ := row1 (HD.out.below hb9)
    obtain ⟨b3, o3, x, A3, n3, k3, rfl, hb3, hx, hc, hri⟩ := (Hrc.out.below hb9).at_ (k := 1) (by omega)
    simp at hx
    subst hx
    have hn3 := hri.len
    simp only [List.length_cons, List.length_nil] at hn3
    obtain rfl : n3 = 1 := by omega
    have Hf := hide (Hbw.out.trans ((HW.out.trans (hb9.mono hzc)).mono (by omega)))
    clear hri hb9 q0 q1 c0' c1' hn3
    go_wp2_with fail
    go_ret
    exact ⟨rfl, Hf.out⟩
end Go.Proofs.Ytdcdpknlloffjaa.Gr
