/- How a slice of variables, and one of integers, lies in memory; the sums that package dom makes of them. -/
import Derived.Test.YtddbplgcglgloaaVMath
import Derived.WalkKit
namespace Go.Proofs.Ytddbplgcglgloaa.Dom
open Go.RowKit

theorem hide {p : Prop} (h : p) : Hid p := h
theorem ret_bool {a b : Bool} (h : a = b) : Ending.returned (.bool a) = .returned (.bool b) := by rw [h]
theorem ret_int {k : IntKind} {a b : Int} (h : a = b) : Ending.returned (.int k a) = .returned (.int k b) := by rw [h]
theorem bcell {W w1 : World} (hb : Below W.heap.size W w1) : (∀ b o, b < W.heap.size → w1.cell? ⟨b, o, none⟩ = W.cell? ⟨b, o, none⟩) ∧ (∀ b o, b < W.heap.size → w1.frozen? ⟨b, o, none⟩ = W.frozen? ⟨b, o, none⟩) :=
  ⟨fun b o h => hb.cell (p := ⟨b, o, none⟩) h, fun b o h => hb.frozen (p := ⟨b, o, none⟩) h⟩

def CellV (w : World) (b o : Nat) (v : V) : Prop := w.cell? ⟨b, o, none⟩ = some (.string v.nm) ∧ w.cell? ⟨b, o + 1, none⟩ = some (.bool v.env) ∧ w.cell? ⟨b, o + 2, none⟩ = some (.int .i64 v.srt) ∧
  w.cell? ⟨b, o + 3, none⟩ = some (.int .i64 v.lo) ∧ w.cell? ⟨b, o + 4, none⟩ = some (.int .i64 v.hi)
def RV (w : World) (B : Nat) (A : Option Addr) (n : Nat) (l : List V) : Prop :=
  l.length = n ∧ (0 < n → ∃ b off, A = some ⟨b, off, none⟩ ∧ b < B ∧ ∀ k v, l[k]? = some v → CellV w b (off + k * 5) v)
def RI (w : World) (B : Nat) (A : Option Addr) (n : Nat) (l : List Int) : Prop :=
  l.length = n ∧ (0 < n → ∃ b off, A = some ⟨b, off, none⟩ ∧ b < B ∧ ∀ k x, l[k]? = some x → w.cell? ⟨b, off + k, none⟩ = some (.int .i64 x))

section
variable {w w' : World} {B B' n : Nat} {A : Option Addr} {l : List V} {xs : List Int}
theorem CellV.keep {b o : Nat} {v : V} (h : CellV w b o v) (hk : ∀ p : Addr, p.block = b → w'.cell? p = w.cell? p) : CellV w' b o v :=
  ⟨(hk _ rfl).trans h.1, (hk _ rfl).trans h.2.1, (hk _ rfl).trans h.2.2.1, (hk _ rfl).trans h.2.2.2.1, (hk _ rfl).trans h.2.2.2.2⟩
theorem RV.keep (h : RV w B A n l) (hk : ∀ p : Addr, p.block < B → w'.cell? p = w.cell? p) : RV w' B A n l :=
  ⟨h.1, fun hn => by
    obtain ⟨b, off, e, hb, hc⟩ := h.2 hn
    exact ⟨b, off, e, hb, fun k v hv => (hc k v hv).keep fun p hp => hk p (by omega)⟩⟩
theorem RV.below (h : RV w B A n l) (hb : Below B w w') : RV w' B A n l := h.keep fun _ hp => hb.cell hp
theorem RV.more (h : RV w B A n l) (hB : B ≤ B') : RV w B' A n l :=
  ⟨h.1, fun hn => by
    obtain ⟨b, off, e, hb, hc⟩ := h.2 hn
    exact ⟨b, off, e, by omega, hc⟩⟩
theorem RV.at_ {k : Nat} (h : RV w B A n l) (hk : k < n) : ∃ b off v, A = some ⟨b, off, none⟩ ∧ b < B ∧ l[k]? = some v ∧ CellV w b (off + k * 5) v := by
  obtain ⟨b, off, e, hb, hc⟩ := h.2 (by omega)
  have hl : k < l.length := by have := h.1; omega
  exact ⟨b, off, l[k], e, hb, List.getElem?_eq_getElem hl, hc k _ (List.getElem?_eq_getElem hl)⟩
theorem RI.keep (h : RI w B A n xs) (hk : ∀ p : Addr, p.block < B → w'.cell? p = w.cell? p) : RI w' B A n xs :=
  ⟨h.1, fun hn => by
    obtain ⟨b, off, e, hb, hc⟩ := h.2 hn
    exact ⟨b, off, e, hb, fun k v hv => (hk _ (by exact hb)).trans (hc k v hv)⟩⟩
theorem RI.below (h : RI w B A n xs) (hb : Below B w w') : RI w' B A n xs := h.keep fun _ hp => hb.cell hp
theorem RI.more (h : RI w B A n xs) (hB : B ≤ B') : RI w B' A n xs :=
  ⟨h.1, fun hn => by
    obtain ⟨b, off, e, hb, hc⟩ := h.2 hn
    exact ⟨b, off, e, by omega, hc⟩⟩
theorem RI.at_ {k : Nat} (h : RI w B A n xs) (hk : k < n) : ∃ b off x, A = some ⟨b, off, none⟩ ∧ b < B ∧ xs[k]? = some x ∧ w.cell? ⟨b, off + k, none⟩ = some (.int .i64 x) := by
  obtain ⟨b, off, e, hb, hc⟩ := h.2 (by omega)
  have hl : k < xs.length := by have := h.1; omega
  exact ⟨b, off, xs[k], e, hb, List.getElem?_eq_getElem hl, hc k _ (List.getElem?_eq_getElem hl)⟩
end

def Box5 (w : World) (b : Nat) (v : V) : Prop := w.cell? ⟨b, 0, none⟩ = some (.string v.nm) ∧ w.cell? ⟨b, 1, none⟩ = some (.bool v.env) ∧ w.cell? ⟨b, 2, none⟩ = some (.int .i64 v.srt) ∧
  w.cell? ⟨b, 3, none⟩ = some (.int .i64 v.lo) ∧ w.cell? ⟨b, 4, none⟩ = some (.int .i64 v.hi)
theorem box_new (w : World) (v : V) (t : TypeId) : Box5 (w.alloc (.cells #[.string v.nm, .bool v.env, .int .i64 v.srt, .int .i64 v.lo, .int .i64 v.hi] t)) w.heap.size v := by
  unfold Box5
  simp [go_sem]
theorem Box5.below {w w' : World} {B b : Nat} {v : V} (h : Box5 w b v) (hb : Below B w w') (hB : b < B) : Box5 w' b v :=
  ⟨(hb.cell (by exact hB)).trans h.1, (hb.cell (by exact hB)).trans h.2.1, (hb.cell (by exact hB)).trans h.2.2.1, (hb.cell (by exact hB)).trans h.2.2.2.1, (hb.cell (by exact hB)).trans h.2.2.2.2⟩
theorem below_box {w wr w1 : World} {o : Obj} {B : Nat} (h : Below B w wr) (hB : B ≤ w.heap.size) (h1 : Below (wr.alloc o).heap.size (wr.alloc o) w1) : Below B w w1 :=
  (h.alloc (Nat.le_trans hB h.size) o).trans (h1.mono (by have := h.size; simp; omega))

theorem drop_at {α : Type} {l : List α} {k : Nat} {v : α} (h : l[k]? = some v) : l.drop k = v :: l.drop (k + 1) := by
  obtain ⟨hk, rfl⟩ := List.getElem?_eq_some_iff.1 h
  exact List.drop_eq_getElem_cons hk

/- Total: the product, left as soon as it is too great or a variable may not be. -/
def totGo (t : Int) : List V → Int
  | [] => t
  | v :: r => if v.may ≠ 0 then 0 else if 512 < t * v.size then 0 else totGo (t * v.size) r
def totL (l : List V) : Int := if 6 < l.length then 0 else totGo 1 l

end Go.Proofs.Ytddbplgcglgloaa.Dom
