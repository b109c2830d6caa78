/- The walk of the statement ExprDeep. -/
import Derived.Test.YtjllnnbnhkmjkaaLCalls
import Derived.Deep.RegionHeld
namespace Go.Proofs.Ytjllnnbnhkmjkaa
open Go.RowKit
open Go.Sort (grow)
set_option linter.unusedSimpArgs false
set_option linter.unusedVariables false

/- an expression all of whose blocks lie at lo or behind it -/
def RL (w : World) (lo B : Nat) : Nat → Int → Int → Option Addr → Nat → Nat → T → Prop
  | 0, _, _, _, _, _, _ => False
  | d + 1, op, n, A, len, cap, t => t.op = op ∧ t.n = n ∧ t.kids.length = len ∧ len ≤ cap ∧ cap ≤ maxLen ∧
      (0 < len → ∃ b off, A = some ⟨b, off, none⟩ ∧ lo ≤ b ∧ b < B ∧ ∀ k u, t.kids[k]? = some u → ∃ op2 n2 A2 l2 c2, CellE w b (off + k * 3) op2 n2 A2 l2 c2 ∧ RL w lo B d op2 n2 A2 l2 c2 u)
theorem RL.re {w : World} {lo B : Nat} : ∀ (d : Nat) (op n : Int) (A : Option Addr) (len cap : Nat) (t : T), RL w lo B d op n A len cap t → RE w B d op n A len cap t
  | 0, _, _, _, _, _, _, h => h
  | d + 1, op, n, A, len, cap, t, ⟨h1, h2, h3, h4, h5, h6⟩ => ⟨h1, h2, h3, h4, h5, fun hl => by
      obtain ⟨b, off, e, _, hb, hc⟩ := h6 hl
      refine ⟨b, off, e, hb, fun k u hu => ?_⟩
      obtain ⟨op2, n2, A2, l2, c2, hce, hre⟩ := hc k u hu
      exact ⟨op2, n2, A2, l2, c2, hce, RL.re d op2 n2 A2 l2 c2 u hre⟩⟩
theorem RL.keep {w w' : World} {lo B B' : Nat} (hB : B ≤ B') (hk : ∀ p : Addr, lo ≤ p.block → p.block < B → w'.cell? p = w.cell? p) : ∀ (d : Nat) (op n : Int) (A : Option Addr) (len cap : Nat) (t : T), RL w lo B d op n A len cap t → RL w' lo B' d op n A len cap t
  | 0, _, _, _, _, _, _, h => h
  | d + 1, op, n, A, len, cap, t, ⟨h1, h2, h3, h4, h5, h6⟩ => ⟨h1, h2, h3, h4, h5, fun hl => by
      obtain ⟨b, off, e, hlo, hb, hc⟩ := h6 hl
      refine ⟨b, off, e, hlo, by omega, fun k u hu => ?_⟩
      obtain ⟨op2, n2, A2, l2, c2, hce, hre⟩ := hc k u hu
      exact ⟨op2, n2, A2, l2, c2, hce.keep (fun p hp => hk p (by omega) (by omega)), RL.keep hB hk d op2 n2 A2 l2 c2 u hre⟩⟩
theorem RL.leaf (w : World) (lo B d : Nat) (op n : Int) : RL w lo B (d + 1) op n none 0 0 (.mk op n []) :=
  ⟨rfl, rfl, rfl, Nat.le_refl _, by unfold maxLen; omega, fun h => absurd h (by omega)⟩
theorem RL.node {w : World} {lo B d : Nat} {op n : Int} {b off len cap : Nat} {ks : List T} (hlen : ks.length = len) (hlc : len ≤ cap) (hcap : cap ≤ maxLen) (hlo : lo ≤ b) (hb : b < B)
    (h : ∀ k u, ks[k]? = some u → ∃ op2 n2 A2 l2 c2, CellE w b (off + k * 3) op2 n2 A2 l2 c2 ∧ RL w lo B d op2 n2 A2 l2 c2 u) : RL w lo B (d + 1) op n (some ⟨b, off, none⟩) len cap (.mk op n ks) :=
  ⟨rfl, rfl, hlen, hlc, hcap, fun _ => ⟨b, off, rfl, hlo, hb, h⟩⟩

/- a box that one stores into -/
def bxD (op n : Int) (A : Option Addr) (len cap : Nat) : Nat → Value := fun i => if i = 0 then .int .i64 op else if i = 1 then .int .i64 n else .slice A len cap
theorem bxD_new (w : World) (op n : Int) (A : Option Addr) (len cap : Nat) : (w.alloc (.cells #[.int .i64 op, .int .i64 n, .slice A len cap] 24)).rowIs w.heap.size 24 3 (bxD op n A len cap) :=
  World.rowIs_alloc w _ 24 _ (fun i hi => by
    have h : i = 0 ∨ i = 1 ∨ i = 2 := by simp at hi; omega
    rcases h with rfl | rfl | rfl <;> rfl)
theorem bxD_cells {w : World} {g : Nat} {op n : Int} {A : Option Addr} {len cap : Nat} (h : w.rowIs g 24 3 (bxD op n A len cap)) : Box3 w g op n A len cap :=
  ⟨h.cell (i := 0) (by omega), h.cell (i := 1) (by omega), h.cell (i := 2) (by omega)⟩

theorem box_store {wr : World} {g : Nat} {op n : Int} {A : Option Addr} {len cap : Nat} (hrow : wr.rowIs g 24 3 (bxD op n A len cap)) (o : Obj) (op2 n2 : Int) (A2 : Option Addr) (len2 cap2 : Nat) :
    ((((wr.alloc o).setCell ⟨g, 0, none⟩ (.int .i64 op2)).setCell ⟨g, 1, none⟩ (.int .i64 n2)).setCell ⟨g, 2, none⟩ (.slice A2 len2 cap2)).rowIs g 24 3 (bxD op2 n2 A2 len2 cap2) ∧
    ((((wr.alloc o).setCell ⟨g, 0, none⟩ (.int .i64 op2)).setCell ⟨g, 1, none⟩ (.int .i64 n2)).setCell ⟨g, 2, none⟩ (.slice A2 len2 cap2)).heap.size = wr.heap.size + 1 ∧
    (∀ q : Addr, q.block ≠ g → ((((wr.alloc o).setCell ⟨g, 0, none⟩ (.int .i64 op2)).setCell ⟨g, 1, none⟩ (.int .i64 n2)).setCell ⟨g, 2, none⟩ (.slice A2 len2 cap2)).cell? q = (wr.alloc o).cell? q) ∧
    (∀ (B : Nat) (a : World), B ≤ g → B ≤ wr.heap.size → Below B a wr → Below B a ((((wr.alloc o).setCell ⟨g, 0, none⟩ (.int .i64 op2)).setCell ⟨g, 1, none⟩ (.int .i64 n2)).setCell ⟨g, 2, none⟩ (.slice A2 len2 cap2))) := by
  refine ⟨?_, by simp [World.setCell], fun q hq => ?_, fun B a hB hz hb => (((hb.alloc hz o).setCell (by exact hB) _).setCell (by exact hB) _).setCell (by exact hB) _⟩
  · refine ((((hrow.alloc o).set 0 _).set 1 _).set 2 _).congr (fun i hi => ?_)
    have h : i = 0 ∨ i = 1 ∨ i = 2 := by omega
    rcases h with rfl | rfl | rfl <;> rfl
  · rw [World.cell?_setCell_far _ _ _ _ (fun e => hq e.symm), World.cell?_setCell_far _ _ _ _ (fun e => hq e.symm), World.cell?_setCell_far _ _ _ _ (fun e => hq e.symm)]

def chT : Nat → T
  | 0 => .mk 2 1 []
  | k + 1 => .mk 5 0 [chT k]
def dbT : Nat → T
  | 0 => .mk 2 0 []
  | k + 1 => .mk 6 0 [dbT k, dbT k]
theorem ch_may : ∀ q : Fin 30, mayE (chT q.val) = if 12 < (q.val : Int) + 1 then 7 else 0 := by decide +kernel
theorem ch_nodes : ∀ q : Fin 30, nodesE (chT q.val) = if 12 < (q.val : Int) + 1 then 12 else (q.val : Int) + 1 := by decide +kernel
theorem db_may : mayE (dbT 7) = 7 := by decide +kernel
theorem db_nodes : nodesE (dbT 7) = 61 := by decide +kernel

set_option maxRecDepth 100000 in
set_option maxHeartbeats 4000000 in
theorem deepLaw_any (x : Int) (w : World) :
    Calls Try.prog 5 #[.int .i64 x] w fun e w' => e = .returned (.bool true) ∧ Below w.heap.size w w' := by
  obtain ⟨q, hq5, hqe⟩ : ∃ q : Nat, q < 30 ∧ (IntKind.u64.wrap x).tmod 30 = (q : Int) := by
    have h0 : 0 ≤ IntKind.u64.wrap x := by rw [IntKind.wrap_u64]; omega
    refine ⟨((IntKind.u64.wrap x).tmod 30).toNat, ?_, ?_⟩
    · rw [Int.tmod_eq_emod_of_nonneg h0]; omega
    · rw [Int.tmod_eq_emod_of_nonneg h0]; omega
  have hqw : IntKind.i64.wrap (q : Int) = (q : Int) := by rw [IntKind.wrap_i64]; omega
  have hb0 : Below w.heap.size w (w.alloc (.cells #[.int .i64 2, .int .i64 1, .slice none 0 0] 24)) := (Below.refl _ _).alloc (Nat.le_refl _) _
  have Hrow0 := hide (bxD_new w 2 1 none 0 0)
  have hzs : (w.alloc (.cells #[.int .i64 2, .int .i64 1, .slice none 0 0] 24)).heap.size = w.heap.size + 1 := by simp
  have Hb0 := hide hb0
  clear hb0
  have Hm := hide (ch_may ⟨q, hq5⟩)
  have Hn := hide (ch_nodes ⟨q, hq5⟩)
  go_enter Try.func5, Try.ntmps5
  go_wp2_with fail
  generalize w.alloc (.cells #[.int .i64 2, .int .i64 1, .slice none 0 0] 24) = w1 at *
  go_loopw [12] (fun i wr => ∃ (k : Nat) (op n : Int) (A : Option Addr) (len cap : Nat), k ≤ q ∧ i = .int .i64 k ∧ wr.rowIs w.heap.size 24 3 (bxD op n A len cap) ∧ RL wr (w.heap.size + 1) wr.heap.size (k + 1) op n A len cap (chT k) ∧ Below w.heap.size w wr ∧ w.heap.size + 1 ≤ wr.heap.size) (fun i _ => q - (intOf i).toNat)
  case atStart => exact ⟨0, 2, 1, none, 0, 0, by omega, rfl, Hrow0.out, RL.leaf _ _ _ _ _ _, Hb0.out, by omega⟩
  case round =>
    obtain ⟨k, op, n, A, len, cap, hk, rfl, hrow, hrl, hb, hz⟩ := hrel
    obtain ⟨a0, a1, a2⟩ := bxD_cells hrow
    have hf0 := hrow.frozen 0
    have hf1 := hrow.frozen 1
    have hf2 := hrow.frozen 2
    have Hrow := hide hrow
    have Hrl := hide hrl
    have Hb := hide hb
    clear hrow hrl hb
    by_cases hlt : k < q
    · have hlt' : ((k : Int) < (q : Int)) := by omega
      have hrow2 := Hrow.out.alloc (.cells #[.int .i64 op, .int .i64 n, .slice A len cap] 24)
      obtain ⟨e0, e1, e2⟩ := bxD_cells hrow2
      have hg0 := hrow2.frozen 0
      have hg1 := hrow2.frozen 1
      have hg2 := hrow2.frozen 2
      clear hf0 hf1 hf2 hrow2
      go_wp2_with fail
      go_roundw
      case rel =>
        obtain ⟨s1, s2, s3, s4⟩ := box_store Hrow.out (.cells #[.int .i64 op, .int .i64 n, .slice A len cap] 24) 5 0 (some ⟨wr.heap.size, 0, none⟩) 1 1
        refine ⟨k + 1, 5, 0, some ⟨wr.heap.size, 0, none⟩, 1, 1, by omega, by go_num, s1, ?_, s4 _ _ (Nat.le_refl _) (by omega) Hb.out, by omega⟩
        have kid := RL.keep (w' := (((((wr.alloc (.cells #[.int .i64 op, .int .i64 n, .slice A len cap] 24)).setCell ⟨w.heap.size, 0, none⟩ (.int .i64 5)).setCell ⟨w.heap.size, 1, none⟩ (.int .i64 0)).setCell ⟨w.heap.size, 2, none⟩ (.slice (some ⟨wr.heap.size, 0, none⟩) 1 1)))) (B' := wr.heap.size + 1) (by omega) (fun p h1 h2 => (s3 p (by omega)).trans (World.cell?_alloc_lt _ _ _ h2)) _ _ _ _ _ _ _ Hrl.out
        rw [s2]
        refine RL.node rfl (by omega) (by unfold maxLen; omega) (by omega) (by omega) (fun m u hu => ?_)
        match m, hu with
        | 0, hu => simp at hu; subst hu; exact ⟨_, _, _, _, _, ⟨(s3 _ (by show wr.heap.size ≠ w.heap.size; omega)).trans (by simp [go_sem]), (s3 _ (by show wr.heap.size ≠ w.heap.size; omega)).trans (by simp [go_sem]), (s3 _ (by show wr.heap.size ≠ w.heap.size; omega)).trans (by simp [go_sem])⟩, kid⟩
        | m + 1, hu => simp at hu
      case measure => simp [intOf]; omega
    · have hlt' : ¬ ((k : Int) < (q : Int)) := by omega
      obtain rfl : k = q := by omega
      obtain ⟨wA, rfl⟩ : ∃ wA, wA = wr := ⟨_, rfl⟩
      by_cases h12 : 12 < (k : Int) + 1
      · have h12b : decide (12 < (k : Int) + 1) = true := by simp; omega
        simp only [if_pos h12] at Hm Hn
        have hbB : Below wA.heap.size wA (wA.alloc (.cells #[.int .i64 2, .int .i64 0, .slice none 0 0] 24)) := (Below.refl _ _).alloc (Nat.le_refl _) _
        have Hrow2 := hide (bxD_new wA 2 0 none 0 0)
        have hzv : (wA.alloc (.cells #[.int .i64 2, .int .i64 0, .slice none 0 0] 24)).heap.size = wA.heap.size + 1 := by simp
        have HbB := hide hbB
        clear hbB
        go_wp2_with fail
        generalize wA.alloc (.cells #[.int .i64 2, .int .i64 0, .slice none 0 0] 24) = w2 at *
        go_loopw [22] (fun i wr => ∃ (j : Nat) (po pn : Int) (PA : Option Addr) (pl pc : Nat), j ≤ 7 ∧ i = .int .i64 j ∧ wr.rowIs wA.heap.size 24 3 (bxD po pn PA pl pc) ∧ RL wr (wA.heap.size + 1) wr.heap.size (j + 1) po pn PA pl pc (dbT j) ∧ Below wA.heap.size wA wr ∧ wA.heap.size + 1 ≤ wr.heap.size) (fun i _ => 7 - (intOf i).toNat)
        case atStart => exact ⟨0, 2, 0, none, 0, 0, by omega, rfl, Hrow2.out, RL.leaf _ _ _ _ _ _, HbB.out, by omega⟩
        case round =>
          obtain ⟨j, po, pn, PA, pl, pc, hj, rfl, hrw, hrq, hbv, hzz⟩ := hrel
          have Hrw := hide hrw
          have Hrq := hide hrq
          have Hbv := hide hbv
          obtain ⟨b0, b1, b2⟩ := bxD_cells hrw
          clear hrw hrq hbv
          by_cases hjl : j < 7
          · have hjl' : ((j : Int) < 7) := by omega
            have hrw2 := Hrw.out.alloc (.cells #[.int .i64 po, .int .i64 pn, .slice PA pl pc, .int .i64 po, .int .i64 pn, .slice PA pl pc] 24)
            obtain ⟨e0, e1, e2⟩ := bxD_cells hrw2
            have hg0 := hrw2.frozen 0
            have hg1 := hrw2.frozen 1
            have hg2 := hrw2.frozen 2
            clear hrw2
            go_wp2_with fail
            go_roundw
            case rel =>
              obtain ⟨s1, s2, s3, s4⟩ := box_store Hrw.out (.cells #[.int .i64 po, .int .i64 pn, .slice PA pl pc, .int .i64 po, .int .i64 pn, .slice PA pl pc] 24) 6 0 (some ⟨wr.heap.size, 0, none⟩) 2 2
              refine ⟨j + 1, 6, 0, some ⟨wr.heap.size, 0, none⟩, 2, 2, by omega, by go_num, s1, ?_, s4 _ _ (Nat.le_refl _) (by omega) Hbv.out, by omega⟩
              have kid := RL.keep (w' := (((((wr.alloc (.cells #[.int .i64 po, .int .i64 pn, .slice PA pl pc, .int .i64 po, .int .i64 pn, .slice PA pl pc] 24)).setCell ⟨wA.heap.size, 0, none⟩ (.int .i64 6)).setCell ⟨wA.heap.size, 1, none⟩ (.int .i64 0)).setCell ⟨wA.heap.size, 2, none⟩ (.slice (some ⟨wr.heap.size, 0, none⟩) 2 2)))) (B' := wr.heap.size + 1) (by omega) (fun p h1 h2 => (s3 p (by omega)).trans (World.cell?_alloc_lt _ _ _ h2)) _ _ _ _ _ _ _ Hrq.out
              rw [s2]
              refine RL.node rfl (by omega) (by unfold maxLen; omega) (by omega) (by omega) (fun m u hu => ?_)
              match m, hu with
              | 0, hu => simp at hu; subst hu; exact ⟨_, _, _, _, _, ⟨(s3 _ (by show wr.heap.size ≠ wA.heap.size; omega)).trans (by simp [go_sem]), (s3 _ (by show wr.heap.size ≠ wA.heap.size; omega)).trans (by simp [go_sem]), (s3 _ (by show wr.heap.size ≠ wA.heap.size; omega)).trans (by simp [go_sem])⟩, kid⟩
              | 1, hu => simp at hu; subst hu; exact ⟨_, _, _, _, _, ⟨(s3 _ (by show wr.heap.size ≠ wA.heap.size; omega)).trans (by simp [go_sem]), (s3 _ (by show wr.heap.size ≠ wA.heap.size; omega)).trans (by simp [go_sem]), (s3 _ (by show wr.heap.size ≠ wA.heap.size; omega)).trans (by simp [go_sem])⟩, kid⟩
              | m + 2, hu => simp at hu
            case measure => simp [intOf]; omega
          · have hjl' : ¬ ((j : Int) < 7) := by omega
            obtain rfl : j = 7 := by omega
            have Hre1 := hide ((RL.re _ _ _ _ _ _ _ Hrl.out).below Hbv.out)
            have Hre2 := hide (RL.re _ _ _ _ _ _ _ Hrq.out)
            have Hbx1 := hide ((bxD_cells Hrow.out).below Hbv.out (by omega))
            have Hbx2 := hide (bxD_cells Hrw.out)
            have Hbw := hide (Hb.out.trans (Hbv.out.mono (by omega)))
            clear Hrl Hrq Hrow Hrw Hbv Hb HbB Hrow2 Hrow0 Hb0 b0 b1 b2 a0 a1 a2 hf0 hf1 hf2
            obtain ⟨a0, a1, a2⟩ := Hbx1.out
            go_wp2_with fail
            refine (may_any wA.heap.size _ _ _ _ _ _ (chT k) wr (by omega) Hre1.out).mono ?_
            rintro e w5 ⟨rfl, hb5⟩
            rw [Hm.out]
            have hz5 := hb5.size
            have Hb5 := hide hb5
            clear a0 a1 a2 hb5
            obtain ⟨a0, a1, a2⟩ := Hbx1.out.below Hb5.out (by omega)
            go_wp2_with fail
            refine (nodes_any wA.heap.size _ _ _ _ _ _ (chT k) w5 (by omega) (Hre1.out.below (Hb5.out.mono (by omega)))).mono ?_
            rintro e w6 ⟨rfl, hb6⟩
            rw [Hn.out]
            have hz6 := hb6.size
            have Hb6 := hide (Hb5.out.trans (hb6.mono (by omega)))
            clear a0 a1 a2 hb6 Hb5
            obtain ⟨a0, a1, a2⟩ := Hbx2.out.below Hb6.out (by omega)
            go_wp2_with fail
            refine (may_any wr.heap.size _ _ _ _ _ _ (dbT 7) w6 (by omega) (Hre2.out.below Hb6.out)).mono ?_
            rintro e w7 ⟨rfl, hb7⟩
            rw [db_may]
            have hz7 := hb7.size
            have Hb7 := hide (Hb6.out.trans (hb7.mono (by omega)))
            clear a0 a1 a2 hb7 Hb6
            obtain ⟨a0, a1, a2⟩ := Hbx2.out.below Hb7.out (by omega)
            go_wp2_with fail
            refine (nodes_any wr.heap.size _ _ _ _ _ _ (dbT 7) w7 (by omega) (Hre2.out.below Hb7.out)).mono ?_
            rintro e w8 ⟨rfl, hb8⟩
            rw [db_nodes]
            have hz8 := hb8.size
            have Hb8 := hide (Hb7.out.trans (hb8.mono (by omega)))
            clear a0 a1 a2 hb8 Hb7
            go_wp2_with fail
            refine (awake_any _).mono ?_
            rintro e w9 ⟨rfl, hb9⟩
            have Hf := hide (Hbw.out.trans ((Hb8.out.trans (hb9.mono (by omega))).mono (by omega)))
            clear hb9
            go_wp2_with fail
            go_ret
            exact ⟨rfl, Hf.out⟩
      · have h12b : decide (12 < (k : Int) + 1) = false := by simp; omega
        simp only [if_neg h12] at Hm Hn
        have hbB : Below wA.heap.size wA (wA.alloc (.cells #[.int .i64 2, .int .i64 0, .slice none 0 0] 24)) := (Below.refl _ _).alloc (Nat.le_refl _) _
        have Hrow2 := hide (bxD_new wA 2 0 none 0 0)
        have hzv : (wA.alloc (.cells #[.int .i64 2, .int .i64 0, .slice none 0 0] 24)).heap.size = wA.heap.size + 1 := by simp
        have HbB := hide hbB
        clear hbB
        go_wp2_with fail
        generalize wA.alloc (.cells #[.int .i64 2, .int .i64 0, .slice none 0 0] 24) = w2 at *
        go_loopw [22] (fun i wr => ∃ (j : Nat) (po pn : Int) (PA : Option Addr) (pl pc : Nat), j ≤ 7 ∧ i = .int .i64 j ∧ wr.rowIs wA.heap.size 24 3 (bxD po pn PA pl pc) ∧ RL wr (wA.heap.size + 1) wr.heap.size (j + 1) po pn PA pl pc (dbT j) ∧ Below wA.heap.size wA wr ∧ wA.heap.size + 1 ≤ wr.heap.size) (fun i _ => 7 - (intOf i).toNat)
        case atStart => exact ⟨0, 2, 0, none, 0, 0, by omega, rfl, Hrow2.out, RL.leaf _ _ _ _ _ _, HbB.out, by omega⟩
        case round =>
          obtain ⟨j, po, pn, PA, pl, pc, hj, rfl, hrw, hrq, hbv, hzz⟩ := hrel
          have Hrw := hide hrw
          have Hrq := hide hrq
          have Hbv := hide hbv
          obtain ⟨b0, b1, b2⟩ := bxD_cells hrw
          clear hrw hrq hbv
          by_cases hjl : j < 7
          · have hjl' : ((j : Int) < 7) := by omega
            have hrw2 := Hrw.out.alloc (.cells #[.int .i64 po, .int .i64 pn, .slice PA pl pc, .int .i64 po, .int .i64 pn, .slice PA pl pc] 24)
            obtain ⟨e0, e1, e2⟩ := bxD_cells hrw2
            have hg0 := hrw2.frozen 0
            have hg1 := hrw2.frozen 1
            have hg2 := hrw2.frozen 2
            clear hrw2
            go_wp2_with fail
            go_roundw
            case rel =>
              obtain ⟨s1, s2, s3, s4⟩ := box_store Hrw.out (.cells #[.int .i64 po, .int .i64 pn, .slice PA pl pc, .int .i64 po, .int .i64 pn, .slice PA pl pc] 24) 6 0 (some ⟨wr.heap.size, 0, none⟩) 2 2
              refine ⟨j + 1, 6, 0, some ⟨wr.heap.size, 0, none⟩, 2, 2, by omega, by go_num, s1, ?_, s4 _ _ (Nat.le_refl _) (by omega) Hbv.out, by omega⟩
              have kid := RL.keep (w' := (((((wr.alloc (.cells #[.int .i64 po, .int .i64 pn, .slice PA pl pc, .int .i64 po, .int .i64 pn, .slice PA pl pc] 24)).setCell ⟨wA.heap.size, 0, none⟩ (.int .i64 6)).setCell ⟨wA.heap.size, 1, none⟩ (.int .i64 0)).setCell ⟨wA.heap.size, 2, none⟩ (.slice (some ⟨wr.heap.size, 0, none⟩) 2 2)))) (B' := wr.heap.size + 1) (by omega) (fun p h1 h2 => (s3 p (by omega)).trans (World.cell?_alloc_lt _ _ _ h2)) _ _ _ _ _ _ _ Hrq.out
              rw [s2]
              refine RL.node rfl (by omega) (by unfold maxLen; omega) (by omega) (by omega) (fun m u hu => ?_)
              match m, hu with
              | 0, hu => simp at hu; subst hu; exact ⟨_, _, _, _, _, ⟨(s3 _ (by show wr.heap.size ≠ wA.heap.size; omega)).trans (by simp [go_sem]), (s3 _ (by show wr.heap.size ≠ wA.heap.size; omega)).trans (by simp [go_sem]), (s3 _ (by show wr.heap.size ≠ wA.heap.size; omega)).trans (by simp [go_sem])⟩, kid⟩
              | 1, hu => simp at hu; subst hu; exact ⟨_, _, _, _, _, ⟨(s3 _ (by show wr.heap.size ≠ wA.heap.size; omega)).trans (by simp [go_sem]), (s3 _ (by show wr.heap.size ≠ wA.heap.size; omega)).trans (by simp [go_sem]), (s3 _ (by show wr.heap.size ≠ wA.heap.size; omega)).trans (by simp [go_sem])⟩, kid⟩
              | m + 2, hu => simp at hu
            case measure => simp [intOf]; omega
          · have hjl' : ¬ ((j : Int) < 7) := by omega
            obtain rfl : j = 7 := by omega
            have Hre1 := hide ((RL.re _ _ _ _ _ _ _ Hrl.out).below Hbv.out)
            have Hre2 := hide (RL.re _ _ _ _ _ _ _ Hrq.out)
            have Hbx1 := hide ((bxD_cells Hrow.out).below Hbv.out (by omega))
            have Hbx2 := hide (bxD_cells Hrw.out)
            have Hbw := hide (Hb.out.trans (Hbv.out.mono (by omega)))
            clear Hrl Hrq Hrow Hrw Hbv Hb HbB Hrow2 Hrow0 Hb0 b0 b1 b2 a0 a1 a2 hf0 hf1 hf2
            obtain ⟨a0, a1, a2⟩ := Hbx1.out
            go_wp2_with fail
            refine (may_any wA.heap.size _ _ _ _ _ _ (chT k) wr (by omega) Hre1.out).mono ?_
            rintro e w5 ⟨rfl, hb5⟩
            rw [Hm.out]
            have hz5 := hb5.size
            have Hb5 := hide hb5
            clear a0 a1 a2 hb5
            obtain ⟨a0, a1, a2⟩ := Hbx1.out.below Hb5.out (by omega)
            go_wp2_with fail
            refine (nodes_any wA.heap.size _ _ _ _ _ _ (chT k) w5 (by omega) (Hre1.out.below (Hb5.out.mono (by omega)))).mono ?_
            rintro e w6 ⟨rfl, hb6⟩
            rw [Hn.out]
            have hz6 := hb6.size
            have Hb6 := hide (Hb5.out.trans (hb6.mono (by omega)))
            clear a0 a1 a2 hb6 Hb5
            obtain ⟨a0, a1, a2⟩ := Hbx2.out.below Hb6.out (by omega)
            go_wp2_with fail
            refine (may_any wr.heap.size _ _ _ _ _ _ (dbT 7) w6 (by omega) (Hre2.out.below Hb6.out)).mono ?_
            rintro e w7 ⟨rfl, hb7⟩
            rw [db_may]
            have hz7 := hb7.size
            have Hb7 := hide (Hb6.out.trans (hb7.mono (by omega)))
            clear a0 a1 a2 hb7 Hb6
            obtain ⟨a0, a1, a2⟩ := Hbx2.out.below Hb7.out (by omega)
            go_wp2_with fail
            refine (nodes_any wr.heap.size _ _ _ _ _ _ (dbT 7) w7 (by omega) (Hre2.out.below Hb7.out)).mono ?_
            rintro e w8 ⟨rfl, hb8⟩
            rw [db_nodes]
            have hz8 := hb8.size
            have Hb8 := hide (Hb7.out.trans (hb8.mono (by omega)))
            clear a0 a1 a2 hb8 Hb7
            go_wp2_with fail
            refine (awake_any _).mono ?_
            rintro e w9 ⟨rfl, hb9⟩
            have Hf := hide (Hbw.out.trans ((Hb8.out.trans (hb9.mono (by omega))).mono (by omega)))
            clear hb9
            go_wp2_with fail
            go_ret
            exact ⟨rfl, Hf.out⟩
end Go.Proofs.Ytjllnnbnhkmjkaa
