/- The walk of the statements' own awake; how new expressions lie. -/
import Derived.Test.YtdjllpejonfpgaaDInts
namespace Go.Proofs.Ytdjllpejonfpgaa.Ex
open Go.RowKit
set_option linter.unusedSimpArgs false
set_option linter.unusedVariables false

theorem RE.leaf (w : World) (B d : Nat) (op n : Int) : RE w B (d + 1) op n none 0 0 (.mk op n []) :=
  ⟨rfl, rfl, rfl, Nat.le_refl _, by unfold maxLen; omega, fun h => absurd h (by omega)⟩
theorem RE.node {w : World} {B d : Nat} {op n : Int} {b off len cap : Nat} {ks : List T} (hlen : ks.length = len) (hlc : len ≤ cap) (hcap : cap ≤ maxLen) (hb : b < B)
    (h : ∀ k u, ks[k]? = some u → ∃ op2 n2 A2 l2 c2, CellE w b (off + k * 3) op2 n2 A2 l2 c2 ∧ RE w B d op2 n2 A2 l2 c2 u) : RE w B (d + 1) op n (some ⟨b, off, none⟩) len cap (.mk op n ks) :=
  ⟨rfl, rfl, hlen, hlc, hcap, fun _ => ⟨b, off, rfl, hb, h⟩⟩
theorem RE.up {w : World} {B : Nat} : ∀ (d : Nat) (op n : Int) (A : Option Addr) (len cap : Nat) (t : T), RE w B d op n A len cap t → RE w B (d + 1) op n A len cap t
  | 0, _, _, _, _, _, _, h => absurd h id
  | d + 1, op, n, A, len, cap, t, ⟨h1, h2, h3, h4, h5, h6⟩ => ⟨h1, h2, h3, h4, h5, fun hl => by
      obtain ⟨b, off, e, hb, hc⟩ := h6 hl
      refine ⟨b, off, e, hb, fun k u hu => ?_⟩
      obtain ⟨op2, n2, A2, l2, c2, hce, hre⟩ := hc k u hu
      exact ⟨op2, n2, A2, l2, c2, hce, RE.up d op2 n2 A2 l2 c2 u hre⟩⟩
theorem RE.ups {w : World} {B d : Nat} {op n : Int} {A : Option Addr} {len cap : Nat} {t : T} (k : Nat) (h : RE w B d op n A len cap t) : RE w B (d + k) op n A len cap t := by
  induction k with
  | zero => exact h
  | succ k ih => exact RE.up _ _ _ _ _ _ _ ih
theorem RE.eq_mk {w : World} {B d : Nat} {op n : Int} {A : Option Addr} {len cap : Nat} {t : T} (h : RE w B d op n A len cap t) : t = .mk op n t.kids := by
  match d, h with
  | d + 1, ⟨h1, h2, _⟩ => cases t; simp only [T.op, T.n] at h1 h2; subst h1; subst h2; rfl
theorem RE.bound {w : World} {B d : Nat} {op n : Int} {A : Option Addr} {len cap : Nat} {t : T} (h : RE w B d op n A len cap t) : t.kids.length = len ∧ len ≤ cap ∧ cap ≤ maxLen := by
  match d, h with
  | d + 1, ⟨_, _, h3, h4, h5, _⟩ => exact ⟨h3, h4, h5⟩

def exT : T := .mk 12 0 [.mk 1 1 [], .mk 3 2 []]
theorem ex_may : mayE exT = 0 := by decide +kernel
theorem ex_nodes : nodesE exT = 3 := by decide +kernel
theorem ex_reads : readsE exT false = [2] := by decide +kernel
def exCells : Array Value := #[.int .i64 1, .int .i64 1, .slice none 0 0, .int .i64 3, .int .i64 2, .slice none 0 0]
theorem ex_re (w : World) : RE (w.alloc (.cells exCells 25)) (w.heap.size + 1) 2 12 0 (some ⟨w.heap.size, 0, none⟩) 2 2 exT := by
  refine RE.node rfl (by omega) (by unfold maxLen; omega) (by omega) (fun k u hu => ?_)
  match k, hu with
  | 0, hu => simp at hu; subst hu; exact ⟨1, 1, none, 0, 0, by simp [CellE, go_sem, exCells], RE.leaf _ _ _ _ _⟩
  | 1, hu => simp at hu; subst hu; exact ⟨3, 2, none, 0, 0, by simp [CellE, go_sem, exCells], RE.leaf _ _ _ _ _⟩
  | k + 2, hu => simp at hu

end Go.Proofs.Ytdjllpejonfpgaa.Ex
