/- The walk of the statement ExprShapes. -/
import Derived.Test.YtjllnnbnhkmjkaaLCalls
namespace Go.Proofs.Ytjllnnbnhkmjkaa
open Go.RowKit
open Go.Sort (grow)
set_option linter.unusedSimpArgs false
set_option linter.unusedVariables false

/- a box that one stores into -/
def bxF (op n : Int) (A : Option Addr) (len cap : Nat) : Nat → Value := fun i => if i = 0 then .int .i64 op else if i = 1 then .int .i64 n else .slice A len cap
theorem bx_new (w : World) (op n : Int) (A : Option Addr) (len cap : Nat) : (w.alloc (.cells #[.int .i64 op, .int .i64 n, .slice A len cap] 24)).rowIs w.heap.size 24 3 (bxF op n A len cap) :=
  World.rowIs_alloc w _ 24 _ (fun i hi => by
    have h : i = 0 ∨ i = 1 ∨ i = 2 := by simp at hi; omega
    rcases h with rfl | rfl | rfl <;> rfl)
theorem bx_cells {w : World} {g : Nat} {op n : Int} {A : Option Addr} {len cap : Nat} (h : w.rowIs g 24 3 (bxF op n A len cap)) : Box3 w g op n A len cap :=
  ⟨h.cell (i := 0) (by omega), h.cell (i := 1) (by omega), h.cell (i := 2) (by omega)⟩
theorem own_kept_set {w : World} {base g : Nat} {e : TypeId} {size : Nat} {v : Value} {m : Nat} {xs : List Value} (h : w.ownsRow base e size v m xs) (hg : g < base) (i : Nat) (u : Value) : (w.setCell ⟨g, i, none⟩ u).ownsRow base e size v m xs := by
  have hgr : w.grownBy (w.setCell ⟨g, i, none⟩ u) (some g) := ⟨rfl, rfl, rfl, by simp [World.setCell], fun k _ hne => Below.heap_setCell _ _ _ _ (fun e => hne (by rw [e]))⟩
  refine h.kept hgr ?_
  cases hb : v.ownBlock with
  | none => exact .inl rfl
  | some k =>
    have := (h.lt k hb).1
    exact .inr (fun e => by injection e with e; omega)

def lfs : Nat → List Value
  | 0 => []
  | k + 1 => lfs k ++ [.int .i64 2, .int .i64 0, .slice none 0 0]
def lfT (k : Nat) : List T := List.replicate k (.mk 2 0 [])
theorem lfs_len : ∀ k, (lfs k).length = k * 3
  | 0 => rfl
  | k + 1 => by rw [lfs, List.length_append, lfs_len k]; simp; omega
theorem lfs_at : ∀ (q k : Nat), k < q → (lfs q)[k * 3]? = some (.int .i64 2) ∧ (lfs q)[k * 3 + 1]? = some (.int .i64 0) ∧ (lfs q)[k * 3 + 2]? = some (.slice none 0 0)
  | 0, k, h => absurd h (by omega)
  | q + 1, k, h => by
    rw [lfs]
    by_cases hk : k < q
    · obtain ⟨a, b, c⟩ := lfs_at q k hk
      have hl := lfs_len q
      exact ⟨by rw [List.getElem?_append_left (by omega)]; exact a, by rw [List.getElem?_append_left (by omega)]; exact b, by rw [List.getElem?_append_left (by omega)]; exact c⟩
    · have : k = q := by omega
      subst this
      have hl := lfs_len k
      refine ⟨?_, ?_, ?_⟩
      · rw [List.getElem?_append_right (by omega), hl, show k * 3 - k * 3 = 0 by omega]; rfl
      · rw [List.getElem?_append_right (by omega), hl, show k * 3 + 1 - k * 3 = 1 by omega]; rfl
      · rw [List.getElem?_append_right (by omega), hl, show k * 3 + 2 - k * 3 = 2 by omega]; rfl
theorem own_re {w : World} {base q c : Nat} {O : Option Addr} {op n : Int} (h : w.ownsRow base 24 3 (.slice O q c) q (lfs q)) : RE w w.heap.size 2 op n O q c (.mk op n (lfT q)) := by
  have hqc : q ≤ c ∧ c ≤ maxLen := by
    rcases h.2 with ⟨hv, h0⟩ | ⟨g, cap, cur, hv, hb, hg, h1, h2, _⟩
    · injection hv with e1 e2 e3
      subst e3; exact ⟨by omega, by unfold maxLen; omega⟩
    · injection hv with e1 e2 e3
      subst e3; exact ⟨h1, h2⟩
  refine ⟨rfl, rfl, by simp [T.kids, lfT], hqc.1, hqc.2, fun hl => ?_⟩
  obtain ⟨g, cap, hv, hb, hlt⟩ := h.form hl
  have hA : O = some ⟨g, 0, none⟩ := by injection hv
  subst hA
  refine ⟨g, 0, rfl, hlt, fun k u hu => ?_⟩
  have hk : k < q ∧ u = .mk 2 0 [] := by
    simp only [T.kids, lfT] at hu
    obtain ⟨hk, e⟩ := List.getElem?_eq_some_iff.1 hu
    exact ⟨by simpa using hk, by rw [← e]; simp⟩
  obtain ⟨hkq, rfl⟩ := hk
  obtain ⟨a, b, c3⟩ := lfs_at q k hkq
  have k0 := h.cells (g := g) rfl _ _ a
  have k1 := h.cells (g := g) rfl _ _ b
  have k2 := h.cells (g := g) rfl _ _ c3
  have fix : ∀ j : Nat, (⟨g, 0, none⟩ : Addr).add j = ⟨g, j, none⟩ := fun j => by
    unfold Addr.add
    by_cases hj : j = 0
    · simp [hj]
    · simp [hj]
  rw [fix] at k0 k1 k2
  exact ⟨2, 0, none, 0, 0, ⟨by simpa using k0, by simpa using k1, by simpa using k2⟩, RE.leaf _ _ _ _ _⟩

/- whether it may be -/
theorem lf_sound (q : Nat) : soundK (lfT q) = true := by
  induction q with
  | zero => rfl
  | succ q ih => rw [lfT, List.replicate_succ, soundK]; rw [lfT] at ih; rw [ih]; decide
theorem lf_fz (q : Nat) : fzK (lfT q) = q := by
  induction q with
  | zero => rfl
  | succ q ih =>
    rw [lfT, List.replicate_succ, fzK, ← lfT, ih, fz, fzK]; omega
theorem lf_dp (q : Nat) : dpK (lfT q) 1 = false := by
  induction q with
  | zero => rfl
  | succ q ih =>
    rw [lfT, List.replicate_succ, dpK, ← lfT, ih]; decide
theorem shape_may (op n : Int) (q : Nat) (hq : q < 5) : mayE (.mk op n (lfT q)) = if (decide ((q : Int) = kidsOf op) && nodeN op n) = true then 0 else 1 := by
  have hf : fitsB (.mk op n (lfT q)) = true := (fits_iff _).2 ⟨by rw [fz, lf_fz]; omega, by rw [dp_on _ _ (by omega)]; exact lf_dp q⟩
  have hs : sound (.mk op n (lfT q)) = (decide ((q : Int) = kidsOf op) && nodeN op n) := by
    rw [sound, nodeB_eq, lf_sound, Bool.and_true]; simp [lfT]
  unfold mayE
  rw [hf, hs]
  cases (decide ((q : Int) = kidsOf op) && nodeN op n) <;> rfl
theorem kids_range (op : Int) : 0 ≤ kidsOf op ↔ 1 ≤ op ∧ op ≤ 15 := by
  unfold kidsOf
  split
  · omega
  · split
    · omega
    · split
      · omega
      · split <;> omega
theorem info24 : (Try.prog.info? 24).map (fun i => (i.zero, i.size, i.bytes)) = some (some (.agg #[.int .i64 0, .int .i64 0, .slice none 0 0]), 3, 40) := by kernel_rfl

set_option maxRecDepth 100000 in
set_option maxHeartbeats 40000000 in
theorem shapes_any (op n ks : Int) (w : World) :
    Calls Try.prog 8 #[.int .i64 op, .int .i64 n, .int .i64 ks] w fun e w' => e = .returned (.bool true) ∧ Below w.heap.size w w' := by
  obtain ⟨q, hq5, hqe⟩ : ∃ q : Nat, q < 5 ∧ (IntKind.u64.wrap ks).tmod 5 = (q : Int) := by
    have h0 : 0 ≤ IntKind.u64.wrap ks := by rw [IntKind.wrap_u64]; omega
    refine ⟨((IntKind.u64.wrap ks).tmod 5).toNat, ?_, ?_⟩
    · rw [Int.tmod_eq_emod_of_nonneg h0]; omega
    · rw [Int.tmod_eq_emod_of_nonneg h0]; omega
  have hqw : IntKind.i64.wrap (q : Int) = (q : Int) := by rw [IntKind.wrap_i64]; omega
  have hb0 : Below w.heap.size w (w.alloc (.cells #[.int .i64 op, .int .i64 n, .slice none 0 0] 24)) := (Below.refl _ _).alloc (Nat.le_refl _) _
  have Hrow0 := hide (bx_new w op n none 0 0)
  obtain ⟨i0, hi0, hz0, hz1, hz2⟩ := info_parts info24
  have Hi0 := hide hi0; have Hz0 := hide hz0; have Hz1 := hide hz1; have Hz2 := hide hz2
  clear hi0 hz0 hz1 hz2
  have hzs : (w.alloc (.cells #[.int .i64 op, .int .i64 n, .slice none 0 0] 24)).heap.size = w.heap.size + 1 := by simp
  have Hb0 := hide hb0
  clear hb0
  go_enter Try.func8, Try.ntmps8
  go_wp2_with fail
  generalize w.alloc (.cells #[.int .i64 op, .int .i64 n, .slice none 0 0] 24) = w1 at *
  go_loopw [18] (fun i wr => ∃ (k cc : Nat) (O : Option Addr), k ≤ q ∧ i = .int .i64 k ∧ wr.rowIs w.heap.size 24 3 (bxF op n O k cc) ∧ wr.ownsRow (w.heap.size + 1) 24 3 (.slice O k cc) k (lfs k) ∧ Below w.heap.size w wr ∧ w.heap.size + 1 ≤ wr.heap.size) (fun i _ => q - (intOf i).toNat)
  case atStart => exact ⟨0, 0, none, by omega, rfl, Hrow0.out, ⟨rfl, .inl ⟨rfl, rfl⟩⟩, Hb0.out, by omega⟩
  case round =>
    obtain ⟨k, cc, O, hk, rfl, hrow, hown, hb, hz⟩ := hrel
    obtain ⟨a0, a1, a2⟩ := bx_cells hrow
    have Hrow := hide hrow
    have Hown := hide hown
    have Hb := hide hb
    clear hrow hown hb
    by_cases hlt : k < q
    · have hlt' : ((k : Int) < (q : Int)) := by omega
      have Hb5 : Hid (∀ w5 : World, (wr.alloc (.cells #[.int .i64 2, .int .i64 0, .slice none 0 0] 24)).grownBy w5 (Value.slice O k cc).ownBlock → Below w.heap.size w w5 ∧ w5.rowIs w.heap.size 24 3 (bxF op n O k cc)) := hide (fun w5 hgrow => by
        refine ⟨(Hb.out.alloc (by omega) _).grown hgrow (by simp; omega) (fun j hj => by have := (Hown.out.lt j hj).1; omega), (Hrow.out.alloc _).of_block (hgrow.block _ (by simp; omega) (fun e => ?_))⟩
        have := (Hown.out.lt _ e.symm).1
        omega)
      go_wp2_with (at_builtin; refine wpList_append_lies _ rfl _ _ _ rfl (w.heap.size + 1) 24 i0 _ 3 40 Try.underlying22 Hi0.out Hz0.out Hz1.out Hz2.out rfl (by omega) (.slice O k cc) k (lfs k) rfl (Hown.out.alloc _) ⟨wr.heap.size, 0, none⟩ 1 1 [.int .i64 2, .int .i64 0, .slice none 0 0] rfl rfl (World.news_of_block (cs := #[.int .i64 2, .int .i64 0, .slice none 0 0]) (t := 24) (fr := (0, 0)) (heap_alloc_new wr _)) (by simp [Value.oneCell']) (by omega) (by unfold maxLen; omega) (by omega) (by simp; omega) _ rfl ?_; intro gg cap w5 hown5 hgrow hat hlt5; obtain ⟨hb5, hrow5⟩ := Hb5.out w5 hgrow; obtain ⟨e0, e1, e2⟩ := bx_cells hrow5; have hfz := hrow5.frozen 2; have hsz5 := hgrow.size; clear hgrow hat)
      go_roundw
      case rel =>
        refine ⟨k + 1, cap, some ⟨gg, 0, none⟩, by omega, by go_num, ?_, own_kept_set hown5 (by omega) 2 _, hb5.setCell (by exact Nat.le_refl _) _, ?_⟩
        · refine (hrow5.set 2 _).congr (fun i hi => ?_)
          have h : i = 0 ∨ i = 1 ∨ i = 2 := by omega
          rcases h with rfl | rfl | rfl <;> rfl
        · simp [World.setCell] at hsz5 ⊢; omega
      case measure => simp [intOf]; omega
    · have hlt' : ¬ ((k : Int) < (q : Int)) := by omega
      obtain rfl : k = q := by omega
      have Hre := hide (own_re (op := op) (n := n) Hown.out)
      have Hbx := hide (bx_cells Hrow.out)
      have hm := shape_may op n k hq5
      have hkr := kids_range op
      generalize hkk : kidsOf op = kk at *
      have Hkk := hide hkk
      clear hkk Hown Hrow Hi0 Hz0 Hz1 Hz2 Hb0 hlt a0 a1 a2
      have leaf : Hid (mayE (.mk op n (lfT k)) = 1 ∧ decide (kk < 0) = true ∧ decide (0 ≤ kk) = false ∧ decide (1 ≤ op) = false) ∨
          Hid (mayE (.mk op n (lfT k)) = 1 ∧ decide (kk < 0) = true ∧ decide (0 ≤ kk) = false ∧ decide (1 ≤ op) = true ∧ decide (op ≤ 15) = false) ∨
          Hid (mayE (.mk op n (lfT k)) = 1 ∧ decide (kk < 0) = false ∧ decide (0 ≤ kk) = true ∧ decide (1 ≤ op) = true ∧ decide (op ≤ 15) = true ∧ (kk != (k : Int)) = true) ∨
          Hid (kk = (k : Int) ∧ mayE (.mk op n (lfT k)) = (if nodeN op n = true then 0 else 1) ∧ decide (1 ≤ op) = true ∧ decide (op ≤ 15) = true) := by
        by_cases h0 : 0 ≤ kk
        · obtain ⟨r1, r2⟩ := hkr.1 h0
          by_cases hkq : (k : Int) = kk
          · refine .inr (.inr (.inr (hide ⟨hkq.symm, ?_, by simp [r1], by simp [r2]⟩)))
            rw [hm, decide_eq_true hkq, Bool.true_and]
          · refine .inr (.inr (.inl (hide ⟨?_, by simp; omega, by simp [h0], by simp [r1], by simp [r2], by simp; omega⟩)))
            rw [hm, decide_eq_false hkq]; rfl
        · have hkq : ¬ (k : Int) = kk := by omega
          have hm1 : mayE (.mk op n (lfT k)) = 1 := by rw [hm, decide_eq_false hkq]; rfl
          by_cases r1 : 1 ≤ op
          · exact .inr (.inl (hide ⟨hm1, by simp; omega, by simp; omega, by simp [r1], by simp; omega⟩))
          · exact .inl (hide ⟨hm1, by simp; omega, by simp; omega, by simp; omega⟩)
      clear hm hkr
      rcases leaf with L | L | L | L
      · obtain ⟨L0, L1, L2, L3⟩ := L.out
        have HL := hide L0
        clear L L0
        go_wp2_with fail
        refine (kids_any op _).mono ?_
        rintro e w6 ⟨rfl, rfl⟩
        rw [Hkk.out]
        obtain ⟨a0, a1, a2⟩ := Hbx.out
        go_wp2_with fail
        refine (may_any wr.heap.size 2 op n _ k _ (.mk op n (lfT k)) wr (Nat.le_refl _) Hre.out).mono ?_
        rintro e w7 ⟨rfl, hb7⟩
        rw [HL.out]
        have hz7 := hb7.size
        have Hb7 := hide (Hb.out.trans (hb7.mono (by omega)))
        clear hb7 a0 a1 a2
        go_wp2_with fail
        refine (awake_any _).mono ?_
        rintro e w8 ⟨rfl, hb8⟩
        have Hf := hide (Hb7.out.trans (hb8.mono (by omega)))
        clear hb8
        go_wp2_with fail
        go_ret
        exact ⟨rfl, Hf.out⟩
      · obtain ⟨L0, L1, L2, L3, L4⟩ := L.out
        have HL := hide L0
        clear L L0
        go_wp2_with fail
        refine (kids_any op _).mono ?_
        rintro e w6 ⟨rfl, rfl⟩
        rw [Hkk.out]
        obtain ⟨a0, a1, a2⟩ := Hbx.out
        go_wp2_with fail
        refine (may_any wr.heap.size 2 op n _ k _ (.mk op n (lfT k)) wr (Nat.le_refl _) Hre.out).mono ?_
        rintro e w7 ⟨rfl, hb7⟩
        rw [HL.out]
        have hz7 := hb7.size
        have Hb7 := hide (Hb.out.trans (hb7.mono (by omega)))
        clear hb7 a0 a1 a2
        go_wp2_with fail
        refine (awake_any _).mono ?_
        rintro e w8 ⟨rfl, hb8⟩
        have Hf := hide (Hb7.out.trans (hb8.mono (by omega)))
        clear hb8
        go_wp2_with fail
        go_ret
        exact ⟨rfl, Hf.out⟩
      · obtain ⟨L0, L1, L2, L3, L4, L5⟩ := L.out
        have HL := hide L0
        clear L L0
        go_wp2_with fail
        refine (kids_any op _).mono ?_
        rintro e w6 ⟨rfl, rfl⟩
        rw [Hkk.out]
        obtain ⟨a0, a1, a2⟩ := Hbx.out
        go_wp2_with fail
        refine (may_any wr.heap.size 2 op n _ k _ (.mk op n (lfT k)) wr (Nat.le_refl _) Hre.out).mono ?_
        rintro e w7 ⟨rfl, hb7⟩
        rw [HL.out]
        have hz7 := hb7.size
        have Hb7 := hide (Hb.out.trans (hb7.mono (by omega)))
        clear hb7 a0 a1 a2
        go_wp2_with fail
        refine (awake_any _).mono ?_
        rintro e w8 ⟨rfl, hb8⟩
        have Hf := hide (Hb7.out.trans (hb8.mono (by omega)))
        clear hb8
        go_wp2_with fail
        go_ret
        exact ⟨rfl, Hf.out⟩
      · obtain ⟨L0, L1, L3, L4⟩ := L.out
        subst L0
        have L0a : decide ((k : Int) < 0) = false := by rw [decide_eq_false_iff_not]; omega
        have L0b : decide ((0 : Int) ≤ (k : Int)) = true := by simp
        have L0c : ((k : Int) != (k : Int)) = false := by simp
        have hop : op = 1 ∨ op = 2 ∨ op = 3 ∨ op = 4 ∨ 4 < op := by simp at L3 L4; omega
        clear L
        unfold nodeN at L1
        have o1 : (op == 1) = decide (op = 1) := by by_cases h : op = 1 <;> simp [h]
        have o2 : (op == 2) = decide (op = 2) := by by_cases h : op = 2 <;> simp [h]
        have o3 : (op == 3) = decide (op = 3) := by by_cases h : op = 3 <;> simp [h]
        have o4 : (op == 4) = decide (op = 4) := by by_cases h : op = 4 <;> simp [h]
        have p1 : (n != 0) = !decide (n = 0) := by by_cases h : n = 0 <;> simp [h]
        have p2 : (n != 1) = !decide (n = 1) := by by_cases h : n = 1 <;> simp [h]
        rcases hop with ho | ho | ho | ho | ho
        · have hn : n < -1000 ∨ (-1000 ≤ n ∧ 1000 < n) ∨ (-1000 ≤ n ∧ n ≤ 1000) := by omega
          rw [decide_eq_true (by omega)] at o1
          rw [decide_eq_false (by omega)] at o2
          rw [decide_eq_false (by omega)] at o3
          rw [decide_eq_false (by omega)] at o4
          have o5 : decide (4 < op) = false := by simp; omega
          rcases hn with h1 | ⟨h1, h2⟩ | ⟨h1, h2⟩
          · have HL : Hid (mayE (.mk op n (lfT k)) = 1) := hide (L1.trans (by rw [if_pos ho, if_neg]; simp; omega))
            have q1 : decide (n < -1000) = true := by simp [h1]
            clear L1 ho p1 p2
            go_wp2_with fail
            refine (kids_any op _).mono ?_
            rintro e w6 ⟨rfl, rfl⟩
            rw [Hkk.out]
            obtain ⟨a0, a1, a2⟩ := Hbx.out
            go_wp2_with fail
            refine (may_any wr.heap.size 2 op n _ k _ (.mk op n (lfT k)) wr (Nat.le_refl _) Hre.out).mono ?_
            rintro e w7 ⟨rfl, hb7⟩
            rw [HL.out]
            have hz7 := hb7.size
            have Hb7 := hide (Hb.out.trans (hb7.mono (by omega)))
            clear hb7 a0 a1 a2
            go_wp2_with fail
            refine (awake_any _).mono ?_
            rintro e w8 ⟨rfl, hb8⟩
            have Hf := hide (Hb7.out.trans (hb8.mono (by omega)))
            clear hb8
            go_wp2_with fail
            go_ret
            exact ⟨rfl, Hf.out⟩
          · have HL : Hid (mayE (.mk op n (lfT k)) = 1) := hide (L1.trans (by rw [if_pos ho, if_neg]; simp; omega))
            have q1 : decide (n < -1000) = false := by simp; omega
            have q2 : decide (1000 < n) = true := by simp [h2]
            clear L1 ho p1 p2
            go_wp2_with fail
            refine (kids_any op _).mono ?_
            rintro e w6 ⟨rfl, rfl⟩
            rw [Hkk.out]
            obtain ⟨a0, a1, a2⟩ := Hbx.out
            go_wp2_with fail
            refine (may_any wr.heap.size 2 op n _ k _ (.mk op n (lfT k)) wr (Nat.le_refl _) Hre.out).mono ?_
            rintro e w7 ⟨rfl, hb7⟩
            rw [HL.out]
            have hz7 := hb7.size
            have Hb7 := hide (Hb.out.trans (hb7.mono (by omega)))
            clear hb7 a0 a1 a2
            go_wp2_with fail
            refine (awake_any _).mono ?_
            rintro e w8 ⟨rfl, hb8⟩
            have Hf := hide (Hb7.out.trans (hb8.mono (by omega)))
            clear hb8
            go_wp2_with fail
            go_ret
            exact ⟨rfl, Hf.out⟩
          · have HL : Hid (mayE (.mk op n (lfT k)) = 0) := hide (L1.trans (by rw [if_pos ho, if_pos]; simp; omega))
            have q1 : decide (n < -1000) = false := by simp; omega
            have q2 : decide (1000 < n) = false := by simp; omega
            clear L1 ho p1 p2
            go_wp2_with fail
            refine (kids_any op _).mono ?_
            rintro e w6 ⟨rfl, rfl⟩
            rw [Hkk.out]
            obtain ⟨a0, a1, a2⟩ := Hbx.out
            go_wp2_with fail
            refine (may_any wr.heap.size 2 op n _ k _ (.mk op n (lfT k)) wr (Nat.le_refl _) Hre.out).mono ?_
            rintro e w7 ⟨rfl, hb7⟩
            rw [HL.out]
            have hz7 := hb7.size
            have Hb7 := hide (Hb.out.trans (hb7.mono (by omega)))
            clear hb7 a0 a1 a2
            go_wp2_with fail
            refine (awake_any _).mono ?_
            rintro e w8 ⟨rfl, hb8⟩
            have Hf := hide (Hb7.out.trans (hb8.mono (by omega)))
            clear hb8
            go_wp2_with fail
            go_ret
            exact ⟨rfl, Hf.out⟩
        · have hn : n = 0 ∨ n = 1 ∨ (¬ n = 0 ∧ ¬ n = 1) := by omega
          rw [decide_eq_false (by omega)] at o1
          rw [decide_eq_true (by omega)] at o2
          rw [decide_eq_false (by omega)] at o3
          rw [decide_eq_false (by omega)] at o4
          have o5 : decide (4 < op) = false := by simp; omega
          rcases hn with h1 | h1 | ⟨h1, h2⟩
          · have HL : Hid (mayE (.mk op n (lfT k)) = 0) := hide (L1.trans (by rw [if_neg (show ¬ op = 1 by omega), if_pos ho, if_pos (by simp; omega)]))
            rw [decide_eq_true h1] at p1
            clear p2 h1
            clear L1 ho
            go_wp2_with fail
            refine (kids_any op _).mono ?_
            rintro e w6 ⟨rfl, rfl⟩
            rw [Hkk.out]
            obtain ⟨a0, a1, a2⟩ := Hbx.out
            go_wp2_with fail
            refine (may_any wr.heap.size 2 op n _ k _ (.mk op n (lfT k)) wr (Nat.le_refl _) Hre.out).mono ?_
            rintro e w7 ⟨rfl, hb7⟩
            rw [HL.out]
            have hz7 := hb7.size
            have Hb7 := hide (Hb.out.trans (hb7.mono (by omega)))
            clear hb7 a0 a1 a2
            go_wp2_with fail
            refine (awake_any _).mono ?_
            rintro e w8 ⟨rfl, hb8⟩
            have Hf := hide (Hb7.out.trans (hb8.mono (by omega)))
            clear hb8
            go_wp2_with fail
            go_ret
            exact ⟨rfl, Hf.out⟩
          · have HL : Hid (mayE (.mk op n (lfT k)) = 0) := hide (L1.trans (by rw [if_neg (show ¬ op = 1 by omega), if_pos ho, if_pos (by simp; omega)]))
            rw [decide_eq_true h1] at p2
            rw [decide_eq_false (by omega)] at p1
            clear h1
            clear L1 ho
            go_wp2_with fail
            refine (kids_any op _).mono ?_
            rintro e w6 ⟨rfl, rfl⟩
            rw [Hkk.out]
            obtain ⟨a0, a1, a2⟩ := Hbx.out
            go_wp2_with fail
            refine (may_any wr.heap.size 2 op n _ k _ (.mk op n (lfT k)) wr (Nat.le_refl _) Hre.out).mono ?_
            rintro e w7 ⟨rfl, hb7⟩
            rw [HL.out]
            have hz7 := hb7.size
            have Hb7 := hide (Hb.out.trans (hb7.mono (by omega)))
            clear hb7 a0 a1 a2
            go_wp2_with fail
            refine (awake_any _).mono ?_
            rintro e w8 ⟨rfl, hb8⟩
            have Hf := hide (Hb7.out.trans (hb8.mono (by omega)))
            clear hb8
            go_wp2_with fail
            go_ret
            exact ⟨rfl, Hf.out⟩
          · have HL : Hid (mayE (.mk op n (lfT k)) = 1) := hide (L1.trans (by rw [if_neg (show ¬ op = 1 by omega), if_pos ho, if_neg (by simp; omega)]))
            rw [decide_eq_false h1] at p1
            rw [decide_eq_false h2] at p2
            clear L1 ho
            go_wp2_with fail
            refine (kids_any op _).mono ?_
            rintro e w6 ⟨rfl, rfl⟩
            rw [Hkk.out]
            obtain ⟨a0, a1, a2⟩ := Hbx.out
            go_wp2_with fail
            refine (may_any wr.heap.size 2 op n _ k _ (.mk op n (lfT k)) wr (Nat.le_refl _) Hre.out).mono ?_
            rintro e w7 ⟨rfl, hb7⟩
            rw [HL.out]
            have hz7 := hb7.size
            have Hb7 := hide (Hb.out.trans (hb7.mono (by omega)))
            clear hb7 a0 a1 a2
            go_wp2_with fail
            refine (awake_any _).mono ?_
            rintro e w8 ⟨rfl, hb8⟩
            have Hf := hide (Hb7.out.trans (hb8.mono (by omega)))
            clear hb8
            go_wp2_with fail
            go_ret
            exact ⟨rfl, Hf.out⟩
        · have hn : n < 0 ∨ (0 ≤ n ∧ 6 ≤ n) ∨ (0 ≤ n ∧ n < 6) := by omega
          rw [decide_eq_false (by omega)] at o1
          rw [decide_eq_false (by omega)] at o2
          rw [decide_eq_true (by omega)] at o3
          rw [decide_eq_false (by omega)] at o4
          have o5 : decide (4 < op) = false := by simp; omega
          rcases hn with h1 | ⟨h1, h2⟩ | ⟨h1, h2⟩
          · have HL : Hid (mayE (.mk op n (lfT k)) = 1) := hide (L1.trans (by rw [if_neg (show ¬ op = 1 by omega), if_neg (show ¬ op = 2 by omega), if_pos (show op = 3 ∨ op = 4 by omega), if_neg (by simp; omega)]))
            have q1 : decide (n < 0) = true := by simp [h1]
            clear L1 ho p1 p2
            go_wp2_with fail
            refine (kids_any op _).mono ?_
            rintro e w6 ⟨rfl, rfl⟩
            rw [Hkk.out]
            obtain ⟨a0, a1, a2⟩ := Hbx.out
            go_wp2_with fail
            refine (may_any wr.heap.size 2 op n _ k _ (.mk op n (lfT k)) wr (Nat.le_refl _) Hre.out).mono ?_
            rintro e w7 ⟨rfl, hb7⟩
            rw [HL.out]
            have hz7 := hb7.size
            have Hb7 := hide (Hb.out.trans (hb7.mono (by omega)))
            clear hb7 a0 a1 a2
            go_wp2_with fail
            refine (awake_any _).mono ?_
            rintro e w8 ⟨rfl, hb8⟩
            have Hf := hide (Hb7.out.trans (hb8.mono (by omega)))
            clear hb8
            go_wp2_with fail
            go_ret
            exact ⟨rfl, Hf.out⟩
          · have HL : Hid (mayE (.mk op n (lfT k)) = 1) := hide (L1.trans (by rw [if_neg (show ¬ op = 1 by omega), if_neg (show ¬ op = 2 by omega), if_pos (show op = 3 ∨ op = 4 by omega), if_neg (by simp; omega)]))
            have q1 : decide (n < 0) = false := by simp; omega
            have q2 : decide (6 ≤ n) = true := by simp [h2]
            clear L1 ho p1 p2
            go_wp2_with fail
            refine (kids_any op _).mono ?_
            rintro e w6 ⟨rfl, rfl⟩
            rw [Hkk.out]
            obtain ⟨a0, a1, a2⟩ := Hbx.out
            go_wp2_with fail
            refine (may_any wr.heap.size 2 op n _ k _ (.mk op n (lfT k)) wr (Nat.le_refl _) Hre.out).mono ?_
            rintro e w7 ⟨rfl, hb7⟩
            rw [HL.out]
            have hz7 := hb7.size
            have Hb7 := hide (Hb.out.trans (hb7.mono (by omega)))
            clear hb7 a0 a1 a2
            go_wp2_with fail
            refine (awake_any _).mono ?_
            rintro e w8 ⟨rfl, hb8⟩
            have Hf := hide (Hb7.out.trans (hb8.mono (by omega)))
            clear hb8
            go_wp2_with fail
            go_ret
            exact ⟨rfl, Hf.out⟩
          · have HL : Hid (mayE (.mk op n (lfT k)) = 0) := hide (L1.trans (by rw [if_neg (show ¬ op = 1 by omega), if_neg (show ¬ op = 2 by omega), if_pos (show op = 3 ∨ op = 4 by omega), if_pos (by simp; omega)]))
            have q1 : decide (n < 0) = false := by simp; omega
            have q2 : decide (6 ≤ n) = false := by simp; omega
            clear L1 ho p1 p2
            go_wp2_with fail
            refine (kids_any op _).mono ?_
            rintro e w6 ⟨rfl, rfl⟩
            rw [Hkk.out]
            obtain ⟨a0, a1, a2⟩ := Hbx.out
            go_wp2_with fail
            refine (may_any wr.heap.size 2 op n _ k _ (.mk op n (lfT k)) wr (Nat.le_refl _) Hre.out).mono ?_
            rintro e w7 ⟨rfl, hb7⟩
            rw [HL.out]
            have hz7 := hb7.size
            have Hb7 := hide (Hb.out.trans (hb7.mono (by omega)))
            clear hb7 a0 a1 a2
            go_wp2_with fail
            refine (awake_any _).mono ?_
            rintro e w8 ⟨rfl, hb8⟩
            have Hf := hide (Hb7.out.trans (hb8.mono (by omega)))
            clear hb8
            go_wp2_with fail
            go_ret
            exact ⟨rfl, Hf.out⟩
        · have hn : n < 0 ∨ (0 ≤ n ∧ 6 ≤ n) ∨ (0 ≤ n ∧ n < 6) := by omega
          rw [decide_eq_false (by omega)] at o1
          rw [decide_eq_false (by omega)] at o2
          rw [decide_eq_false (by omega)] at o3
          rw [decide_eq_true (by omega)] at o4
          have o5 : decide (4 < op) = false := by simp; omega
          rcases hn with h1 | ⟨h1, h2⟩ | ⟨h1, h2⟩
          · have HL : Hid (mayE (.mk op n (lfT k)) = 1) := hide (L1.trans (by rw [if_neg (show ¬ op = 1 by omega), if_neg (show ¬ op = 2 by omega), if_pos (show op = 3 ∨ op = 4 by omega), if_neg (by simp; omega)]))
            have q1 : decide (n < 0) = true := by simp [h1]
            clear L1 ho p1 p2
            go_wp2_with fail
            refine (kids_any op _).mono ?_
            rintro e w6 ⟨rfl, rfl⟩
            rw [Hkk.out]
            obtain ⟨a0, a1, a2⟩ := Hbx.out
            go_wp2_with fail
            refine (may_any wr.heap.size 2 op n _ k _ (.mk op n (lfT k)) wr (Nat.le_refl _) Hre.out).mono ?_
            rintro e w7 ⟨rfl, hb7⟩
            rw [HL.out]
            have hz7 := hb7.size
            have Hb7 := hide (Hb.out.trans (hb7.mono (by omega)))
            clear hb7 a0 a1 a2
            go_wp2_with fail
            refine (awake_any _).mono ?_
            rintro e w8 ⟨rfl, hb8⟩
            have Hf := hide (Hb7.out.trans (hb8.mono (by omega)))
            clear hb8
            go_wp2_with fail
            go_ret
            exact ⟨rfl, Hf.out⟩
          · have HL : Hid (mayE (.mk op n (lfT k)) = 1) := hide (L1.trans (by rw [if_neg (show ¬ op = 1 by omega), if_neg (show ¬ op = 2 by omega), if_pos (show op = 3 ∨ op = 4 by omega), if_neg (by simp; omega)]))
            have q1 : decide (n < 0) = false := by simp; omega
            have q2 : decide (6 ≤ n) = true := by simp [h2]
            clear L1 ho p1 p2
            go_wp2_with fail
            refine (kids_any op _).mono ?_
            rintro e w6 ⟨rfl, rfl⟩
            rw [Hkk.out]
            obtain ⟨a0, a1, a2⟩ := Hbx.out
            go_wp2_with fail
            refine (may_any wr.heap.size 2 op n _ k _ (.mk op n (lfT k)) wr (Nat.le_refl _) Hre.out).mono ?_
            rintro e w7 ⟨rfl, hb7⟩
            rw [HL.out]
            have hz7 := hb7.size
            have Hb7 := hide (Hb.out.trans (hb7.mono (by omega)))
            clear hb7 a0 a1 a2
            go_wp2_with fail
            refine (awake_any _).mono ?_
            rintro e w8 ⟨rfl, hb8⟩
            have Hf := hide (Hb7.out.trans (hb8.mono (by omega)))
            clear hb8
            go_wp2_with fail
            go_ret
            exact ⟨rfl, Hf.out⟩
          · have HL : Hid (mayE (.mk op n (lfT k)) = 0) := hide (L1.trans (by rw [if_neg (show ¬ op = 1 by omega), if_neg (show ¬ op = 2 by omega), if_pos (show op = 3 ∨ op = 4 by omega), if_pos (by simp; omega)]))
            have q1 : decide (n < 0) = false := by simp; omega
            have q2 : decide (6 ≤ n) = false := by simp; omega
            clear L1 ho p1 p2
            go_wp2_with fail
            refine (kids_any op _).mono ?_
            rintro e w6 ⟨rfl, rfl⟩
            rw [Hkk.out]
            obtain ⟨a0, a1, a2⟩ := Hbx.out
            go_wp2_with fail
            refine (may_any wr.heap.size 2 op n _ k _ (.mk op n (lfT k)) wr (Nat.le_refl _) Hre.out).mono ?_
            rintro e w7 ⟨rfl, hb7⟩
            rw [HL.out]
            have hz7 := hb7.size
            have Hb7 := hide (Hb.out.trans (hb7.mono (by omega)))
            clear hb7 a0 a1 a2
            go_wp2_with fail
            refine (awake_any _).mono ?_
            rintro e w8 ⟨rfl, hb8⟩
            have Hf := hide (Hb7.out.trans (hb8.mono (by omega)))
            clear hb8
            go_wp2_with fail
            go_ret
            exact ⟨rfl, Hf.out⟩
        · have hn : n = 0 ∨ ¬ n = 0 := by omega
          rw [decide_eq_false (by omega)] at o1
          rw [decide_eq_false (by omega)] at o2
          rw [decide_eq_false (by omega)] at o3
          rw [decide_eq_false (by omega)] at o4
          have o5 : decide (4 < op) = true := by simp; omega
          rcases hn with h1 | h1
          · have HL : Hid (mayE (.mk op n (lfT k)) = 0) := hide (L1.trans (by rw [if_neg (show ¬ op = 1 by omega), if_neg (show ¬ op = 2 by omega), if_neg (show ¬ (op = 3 ∨ op = 4) by omega), if_pos (by simp; omega)]))
            rw [decide_eq_true h1] at p1
            clear p2 h1
            clear L1 ho
            go_wp2_with fail
            refine (kids_any op _).mono ?_
            rintro e w6 ⟨rfl, rfl⟩
            rw [Hkk.out]
            obtain ⟨a0, a1, a2⟩ := Hbx.out
            go_wp2_with fail
            refine (may_any wr.heap.size 2 op n _ k _ (.mk op n (lfT k)) wr (Nat.le_refl _) Hre.out).mono ?_
            rintro e w7 ⟨rfl, hb7⟩
            rw [HL.out]
            have hz7 := hb7.size
            have Hb7 := hide (Hb.out.trans (hb7.mono (by omega)))
            clear hb7 a0 a1 a2
            go_wp2_with fail
            refine (awake_any _).mono ?_
            rintro e w8 ⟨rfl, hb8⟩
            have Hf := hide (Hb7.out.trans (hb8.mono (by omega)))
            clear hb8
            go_wp2_with fail
            go_ret
            exact ⟨rfl, Hf.out⟩
          · have HL : Hid (mayE (.mk op n (lfT k)) = 1) := hide (L1.trans (by rw [if_neg (show ¬ op = 1 by omega), if_neg (show ¬ op = 2 by omega), if_neg (show ¬ (op = 3 ∨ op = 4) by omega), if_neg (by simp; omega)]))
            rw [decide_eq_false h1] at p1
            clear p2
            clear L1 ho
            go_wp2_with fail
            refine (kids_any op _).mono ?_
            rintro e w6 ⟨rfl, rfl⟩
            rw [Hkk.out]
            obtain ⟨a0, a1, a2⟩ := Hbx.out
            go_wp2_with fail
            refine (may_any wr.heap.size 2 op n _ k _ (.mk op n (lfT k)) wr (Nat.le_refl _) Hre.out).mono ?_
            rintro e w7 ⟨rfl, hb7⟩
            rw [HL.out]
            have hz7 := hb7.size
            have Hb7 := hide (Hb.out.trans (hb7.mono (by omega)))
            clear hb7 a0 a1 a2
            go_wp2_with fail
            refine (awake_any _).mono ?_
            rintro e w8 ⟨rfl, hb8⟩
            have Hf := hide (Hb7.out.trans (hb8.mono (by omega)))
            clear hb8
            go_wp2_with fail
            go_ret
            exact ⟨rfl, Hf.out⟩
end Go.Proofs.Ytjllnnbnhkmjkaa
