/- The walk of the program's isWithin, at an expression of few nodes. -/
import Derived.Test.YtkjclofkfmkbdaaMFold
namespace Go.Proofs.Ytkjclofkfmkbdaa
open Go.RowKit Ex
set_option linter.unusedSimpArgs false
set_option linter.unusedVariables false

def oneV (q : Int) : Nat → Value := fun _ => .int .i64 q
theorem fzK_drop {ks : List T} {k : Nat} {u : T} (h : ks[k]? = some u) : fzK (ks.drop k) = fz u + fzK (ks.drop (k + 1)) := by rw [drop_at h, fzK]
theorem fzK_drop_le : ∀ (ks : List T) (k : Nat), fzK (ks.drop k) ≤ fzK ks
  | ks, 0 => by simp
  | [], k + 1 => by simp
  | a :: r, k + 1 => by
    rw [List.drop_succ_cons, fzK]
    have := fzK_drop_le r k
    have := fz_pos a
    omega
theorem fz_eq (t : T) : fz t = 1 + fzK t.kids := by cases t; rw [fz]; rfl
theorem one_set {w : World} {g : Nat} {q q2 : Int} (h : w.rowIs g 3 1 (oneV q)) : (w.setCell ⟨g, 0, none⟩ (.int .i64 q2)).rowIs g 3 1 (oneV q2) :=
  (h.set 0 _).congr (fun i hi => by
    have h : i = 0 := by omega
    subst h; rfl)
set_option maxRecDepth 100000 in
set_option maxHeartbeats 4000000 in
theorem iswithin_any (B g : Nat) : ∀ (d : Nat) (op n : Int) (A : Option Addr) (len cap : Nat) (t : T) (lev q : Int) (w : World), B ≤ w.heap.size → B ≤ g → RE w B d op n A len cap t → fz t ≤ lev + 1 → lev ≤ 100000 → fz t ≤ q → q ≤ 100000000 → w.rowIs g 3 1 (oneV q) →
    Calls Try.prog 62 #[.agg #[.int .i64 op, .int .i64 n, .slice A len cap], .int .i64 lev, .pointer (some ⟨g, 0, none⟩)] w fun e w' => e = .returned (.bool true) ∧ w'.rowIs g 3 1 (oneV (q - fz t)) ∧ Onl g w w' := by
  intro d
  induction d with
  | zero => intro op n A len cap t lev q w hB hg h; exact absurd h id
  | succ d ih =>
    intro op n A len cap t lev q w hB hg hre hl1 hl2 hq1 hq2 hrow
    have IH := hide ih; clear ih
    have Hre := hide hre
    obtain ⟨hx1, hx2, hlen, hcap, hmx, hx6⟩ := hre
    unfold maxLen at hmx
    have Hlen := hide hlen
    have hgl := hrow.lt
    have hfp := fz_pos t
    have Hfz : Hid (fz t = 1 + fzK t.kids) := hide (fz_eq t)
    have hlev : 0 ≤ lev := by omega
    have hlb : decide (lev < 0) = false := by simp; omega
    have hqb : decide (q - 1 < 0) = false := by simp; omega
    have hq0 : 1 ≤ q := by omega
    clear hlen hx1 hx2 hx6
    have hrow0 := hrow.alloc (.cells #[.int .i64 op, .int .i64 n, .slice A len cap] 25)
    have g0 : (w.alloc (.cells #[.int .i64 op, .int .i64 n, .slice A len cap] 25)).cell? ⟨g, 0, none⟩ = some (.int .i64 q) := hrow0.cell (i := 0) (by omega)
    have hfr := hrow0.frozen 0
    have hrow1 := (one_set (q2 := q - 1) hrow).alloc (.cells #[.int .i64 op, .int .i64 n, .slice A len cap] 25)
    have g1 : ((w.setCell ⟨g, 0, none⟩ (.int .i64 (q - 1))).alloc (.cells #[.int .i64 op, .int .i64 n, .slice A len cap] 25)).cell? ⟨g, 0, none⟩ = some (.int .i64 (q - 1)) := hrow1.cell (i := 0) (by omega)
    have hob : Onl g w ((w.setCell ⟨g, 0, none⟩ (.int .i64 (q - 1))).alloc (.cells #[.int .i64 op, .int .i64 n, .slice A len cap] 25)) := ((Onl.refl g w).set 0 _).alloc _
    have hb2 : ((w.setCell ⟨g, 0, none⟩ (.int .i64 (q - 1))).alloc (.cells #[.int .i64 op, .int .i64 n, .slice A len cap] 25)).cell? ⟨w.heap.size, 2, none⟩ = some (.slice A len cap) := by
      have := (box_new (w.setCell ⟨g, 0, none⟩ (.int .i64 (q - 1))) op n A len cap 25).2.2
      simpa [World.setCell] using this
    have Hrow1 := hide hrow1
    have Hob := hide hob
    clear hrow hrow0 hrow1 hob
    go_enter Try.func62, Try.ntmps62
    go_wp2_with fail
    clear g0 g1 hfr hb2 hqb hlb
    generalize (w.setCell ⟨g, 0, none⟩ (.int .i64 (q - 1))).alloc (.cells #[.int .i64 op, .int .i64 n, .slice A len cap] 25) = w2 at *
    go_loopw [25] (fun i wr => ∃ (k : Nat), k ≤ len ∧ i = .int .i64 k ∧ wr.rowIs g 3 1 (oneV (q - fz t + fzK (t.kids.drop k))) ∧ Onl g w wr) (fun i _ => len - (intOf i).toNat)
    case atStart => exact ⟨0, Nat.zero_le _, rfl, Hrow1.out.congr (fun i _ => by simp only [oneV, List.drop_zero]; rw [Hfz.out]; congr 1; omega), Hob.out⟩
    case round =>
      obtain ⟨k, hk, rfl, hrw, hb⟩ := hrel
      have hsz := hb.size
      by_cases hlt : k < len
      · have hlt' : ((k : Int) < (len : Int)) := by omega
        obtain ⟨b, off, u, op2, n2, A2, l2, c2, rfl, hbB, hku, ⟨c0, c1, cs⟩, hre2⟩ := (Hre.out.below (hb.below hg hB)).at_ hlt
        have Hdk := hide (fzK_drop hku)
        have hpd := fzK_pos (t.kids.drop (k + 1))
        have hfu := fzK_at _ k u hku
        have Hf1 : Hid (fz u ≤ lev - 1 + 1) := hide (by have := Hfz.out; omega)
        have Hf2 : Hid (fz u ≤ q - fz t + fzK (t.kids.drop k)) := hide (by have := Hdk.out; omega)
        have Hf3 : Hid (q - fz t + fzK (t.kids.drop k) ≤ 100000000) := hide (by
          have h1 := Hfz.out
          have h2 := fzK_drop_le t.kids k
          omega)
        clear hku hpd hfu
        have Hre3 := hide (hre2.below ((Below.refl B wr).alloc (by omega) (.cells #[.int .i64 op2, .int .i64 n2, .slice A2 l2 c2] 25)))
        clear hre2
        have hbz : B ≤ (wr.alloc (.cells #[.int .i64 op2, .int .i64 n2, .slice A2 l2 c2] 25)).heap.size := by simp; omega
        have Hrw := hide (hrw.alloc (.cells #[.int .i64 op2, .int .i64 n2, .slice A2 l2 c2] 25))
        clear hrw
        go_wp2_with fail
        refine (IH.out op2 n2 A2 l2 c2 u _ _ _ hbz hg Hre3.out Hf1.out (by omega) Hf2.out Hf3.out Hrw.out).mono ?_
        rintro e w3 ⟨rfl, hrow3, hon3⟩
        have Hrow3 := hide (hrow3.congr (g := oneV (q - fz t + fzK (t.kids.drop (k + 1)))) (fun i _ => by simp only [oneV]; rw [Hdk.out]; congr 1; omega))
        have hbw3 := (hb.alloc _).trans hon3
        clear hrow3 hon3 c0 c1 cs Hre3 hbz Hrw Hdk Hf1 Hf2 Hf3
        go_wp2_with fail
        go_roundw
        case rel => exact ⟨k + 1, by omega, by go_num, Hrow3.out, hbw3⟩
        case measure => simp [intOf]; omega
      · have hlt' : ¬ ((k : Int) < (len : Int)) := by omega
        have Hf := hide (hrw.congr (g := oneV (q - fz t)) (fun i _ => by simp only [oneV]; rw [List.drop_of_length_le (by rw [Hlen.out]; omega), fzK]; congr 1; omega))
        clear hrw
        go_wp2_with fail
        go_ret
        exact ⟨rfl, Hf.out, hb⟩
end Go.Proofs.Ytkjclofkfmkbdaa
