/- The walk of the statements' own awake; how new expressions lie. -/
import Derived.Test.YtjllnnbnhkmjkaaDInts
namespace Go.Proofs.Ytjllnnbnhkmjkaa
open Go.RowKit
set_option linter.unusedSimpArgs false
set_option linter.unusedVariables false

theorem RE.leaf (w : World) (B d : Nat) (op n : Int) : RE w B (d + 1) op n none 0 0 (.mk op n []) :=
  ⟨rfl, rfl, rfl, Nat.le_refl _, by unfold maxLen; omega, fun h => absurd h (by omega)⟩
theorem RE.node {w : World} {B d : Nat} {op n : Int} {b off len cap : Nat} {ks : List T} (hlen : ks.length = len) (hlc : len ≤ cap) (hcap : cap ≤ maxLen) (hb : b < B)
    (h : ∀ k u, ks[k]? = some u → ∃ op2 n2 A2 l2 c2, CellE w b (off + k * 3) op2 n2 A2 l2 c2 ∧ RE w B d op2 n2 A2 l2 c2 u) : RE w B (d + 1) op n (some ⟨b, off, none⟩) len cap (.mk op n ks) :=
  ⟨rfl, rfl, hlen, hlc, hcap, fun _ => ⟨b, off, rfl, hb, h⟩⟩
theorem RE.up {w : World} {B : Nat} : ∀ (d : Nat) (op n : Int) (A : Option Addr) (len cap : Nat) (t : T), RE w B d op n A len cap t → RE w B (d + 1) op n A len cap t
  | 0, _, _, _, _, _, _, h => absurd h id
  | d + 1, op, n, A, len, cap, t, ⟨h1, h2, h3, h4, h5, h6⟩ => ⟨h1, h2, h3, h4, h5, fun hl => by
      obtain ⟨b, off, e, hb, hc⟩ := h6 hl
      refine ⟨b, off, e, hb, fun k u hu => ?_⟩
      obtain ⟨op2, n2, A2, l2, c2, hce, hre⟩ := hc k u hu
      exact ⟨op2, n2, A2, l2, c2, hce, RE.up d op2 n2 A2 l2 c2 u hre⟩⟩
theorem RE.ups {w : World} {B d : Nat} {op n : Int} {A : Option Addr} {len cap : Nat} {t : T} (k : Nat) (h : RE w B d op n A len cap t) : RE w B (d + k) op n A len cap t := by
  induction k with
  | zero => exact h
  | succ k ih => exact RE.up _ _ _ _ _ _ _ ih
theorem RE.eq_mk {w : World} {B d : Nat} {op n : Int} {A : Option Addr} {len cap : Nat} {t : T} (h : RE w B d op n A len cap t) : t = .mk op n t.kids := by
  match d, h with
  | d + 1, ⟨h1, h2, _⟩ => cases t; simp only [T.op, T.n] at h1 h2; subst h1; subst h2; rfl
theorem RE.bound {w : World} {B d : Nat} {op n : Int} {A : Option Addr} {len cap : Nat} {t : T} (h : RE w B d op n A len cap t) : t.kids.length = len ∧ len ≤ cap ∧ cap ≤ maxLen := by
  match d, h with
  | d + 1, ⟨_, _, h3, h4, h5, _⟩ => exact ⟨h3, h4, h5⟩

def exT : T := .mk 12 0 [.mk 1 1 [], .mk 3 2 []]
theorem ex_may : mayE exT = 0 := by decide +kernel
theorem ex_nodes : nodesE exT = 3 := by decide +kernel
theorem ex_reads : readsE exT false = [2] := by decide +kernel
def exCells : Array Value := #[.int .i64 1, .int .i64 1, .slice none 0 0, .int .i64 3, .int .i64 2, .slice none 0 0]
theorem ex_re (w : World) : RE (w.alloc (.cells exCells 24)) (w.heap.size + 1) 2 12 0 (some ⟨w.heap.size, 0, none⟩) 2 2 exT := by
  refine RE.node rfl (by omega) (by unfold maxLen; omega) (by omega) (fun k u hu => ?_)
  match k, hu with
  | 0, hu => simp at hu; subst hu; exact ⟨1, 1, none, 0, 0, by simp [CellE, go_sem, exCells], RE.leaf _ _ _ _ _⟩
  | 1, hu => simp at hu; subst hu; exact ⟨3, 2, none, 0, 0, by simp [CellE, go_sem, exCells], RE.leaf _ _ _ _ _⟩
  | k + 2, hu => simp at hu

set_option maxHeartbeats 1000000 in
theorem awake_any (w : World) : Calls Try.prog 10 #[] w fun e w' => e = .returned (.bool true) ∧ Below w.heap.size w w' := by
  have hre := ex_re w
  unfold exCells at hre
  have hb0 : Below w.heap.size w ((w.alloc (.cells #[.int .i64 1, .int .i64 1, .slice none 0 0, .int .i64 3, .int .i64 2, .slice none 0 0] 24)).alloc (.cells #[.int .i64 12, .int .i64 0, .slice (some ⟨w.heap.size, 0, none⟩) 2 2] 24)) := ((Below.refl _ _).alloc (Nat.le_refl _) _).alloc (by simp) _
  have hre1 := hre.below ((Below.refl (w.heap.size + 1) (w.alloc (.cells #[.int .i64 1, .int .i64 1, .slice none 0 0, .int .i64 3, .int .i64 2, .slice none 0 0] 24))).alloc (by simp) (.cells #[.int .i64 12, .int .i64 0, .slice (some ⟨w.heap.size, 0, none⟩) 2 2] 24))
  have hbox := box_new (w.alloc (.cells #[.int .i64 1, .int .i64 1, .slice none 0 0, .int .i64 3, .int .i64 2, .slice none 0 0] 24)) 12 0 (some ⟨w.heap.size, 0, none⟩) 2 2 24
  have hzA : (w.alloc (.cells #[.int .i64 1, .int .i64 1, .slice none 0 0, .int .i64 3, .int .i64 2, .slice none 0 0] 24)).heap.size = w.heap.size + 1 := by simp
  rw [hzA] at hbox
  have hzB : ((w.alloc (.cells #[.int .i64 1, .int .i64 1, .slice none 0 0, .int .i64 3, .int .i64 2, .slice none 0 0] 24)).alloc (.cells #[.int .i64 12, .int .i64 0, .slice (some ⟨w.heap.size, 0, none⟩) 2 2] 24)).heap.size = w.heap.size + 2 := by simp
  have Hre := hide hre1
  have Hbox := hide hbox
  clear hre hre1 hbox hzA
  go_enter Try.func10, Try.ntmps10
  go_wp2_with fail
  generalize (w.alloc (.cells #[.int .i64 1, .int .i64 1, .slice none 0 0, .int .i64 3, .int .i64 2, .slice none 0 0] 24)).alloc (.cells #[.int .i64 12, .int .i64 0, .slice (some ⟨w.heap.size, 0, none⟩) 2 2] 24) = w1 at *
  refine (reads_any (w.heap.size + 1) 2 12 0 (some ⟨w.heap.size, 0, none⟩) 2 2 exT false w1 (by omega) Hre.out).mono ?_
  rintro e w2 ⟨O, n, c, rfl, hown, hn, hb2⟩
  rw [ex_reads] at hown hn
  obtain rfl : n = 1 := by rw [← hn]; rfl
  obtain ⟨b, off, x, rfl, hbl, hx, hc⟩ := (own_ri hown).at_ (k := 0) (by omega)
  have hx2 : x = 2 := by simpa using hx.symm
  subst hx2
  have hz2 := hb2.size
  obtain ⟨d0, d1, d2⟩ := Hbox.out.below hb2 (by omega)
  have Hbox2 := hide (Hbox.out.below hb2 (by omega))
  have Hre2 := hide (Hre.out.below (hb2.mono (by omega)))
  have Hb2 := hide (hb0.trans (hb2.mono (by omega)))
  clear hown hn hx hb2 Hbox Hre hb0
  go_wp2_with fail
  refine (may_any (w.heap.size + 1) 2 12 0 (some ⟨w.heap.size, 0, none⟩) 2 2 exT w2 (by omega) Hre2.out).mono ?_
  rintro e w3 ⟨rfl, hb3⟩
  rw [ex_may]
  have hz3 := hb3.size
  clear d0 d1 d2
  obtain ⟨d0, d1, d2⟩ := Hbox2.out.below hb3 (by omega)
  have Hre3 := hide (Hre2.out.below (hb3.mono (by omega)))
  have Hb3 := hide (Hb2.out.trans (hb3.mono (by omega)))
  have hc3 := (hb3.cell (p := ⟨b, off + 0, none⟩) hbl).trans hc
  clear hb3 Hbox2 Hre2 Hb2 hc
  go_wp2_with fail
  refine (nodes_any (w.heap.size + 1) 2 12 0 (some ⟨w.heap.size, 0, none⟩) 2 2 exT w3 (by omega) Hre3.out).mono ?_
  rintro e w4 ⟨rfl, hb4⟩
  rw [ex_nodes]
  have hz4 := hb4.size
  have Hb4 := hide (Hb3.out.trans (hb4.mono (by omega)))
  have hc4 := (hb4.cell (p := ⟨b, off + 0, none⟩) (by show b < w3.heap.size; omega)).trans hc3
  rw [Nat.add_zero] at hc4
  clear hb4 Hre3 Hb3 hc3 d0 d1 d2
  go_wp2_with fail
  refine (kids_any 15 w4).mono ?_
  rintro e w5 ⟨rfl, rfl⟩
  have hk15 : kidsOf 15 = 3 := by decide
  rw [hk15]
  go_wp2_with fail
  go_ret
  exact ⟨rfl, Hb4.out⟩
end Go.Proofs.Ytjllnnbnhkmjkaa
