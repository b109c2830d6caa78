/- Expressions as trees, and how they lie in memory. -/
import GoSem.Claim
import Derived.WalkKit
import Derived.Deep.Draws
namespace Go.Proofs.YtbppdalfcldodaaGreat.Ex
open Go.RowKit

theorem hide {p : Prop} (h : p) : Hid p := h
theorem ret_bool {a b : Bool} (h : a = b) : Ending.returned (.bool a) = .returned (.bool b) := by rw [h]
theorem ret_int {k : IntKind} {a b : Int} (h : a = b) : Ending.returned (.int k a) = .returned (.int k b) := by rw [h]

inductive T where
  | mk (op n : Int) (kids : List T)
def T.op : T → Int
  | .mk o _ _ => o
def T.n : T → Int
  | .mk _ n _ => n
def T.kids : T → List T
  | .mk _ _ ks => ks

def CellE (w : World) (b o : Nat) (op n : Int) (A : Option Addr) (len cap : Nat) : Prop := w.cell? ⟨b, o, none⟩ = some (.int .i64 op) ∧ w.cell? ⟨b, o + 1, none⟩ = some (.int .i64 n) ∧ w.cell? ⟨b, o + 2, none⟩ = some (.slice A len cap)
def RE (w : World) (B : Nat) : Nat → Int → Int → Option Addr → Nat → Nat → T → Prop
  | 0, _, _, _, _, _, _ => False
  | d + 1, op, n, A, len, cap, t => t.op = op ∧ t.n = n ∧ t.kids.length = len ∧ len ≤ cap ∧ cap ≤ maxLen ∧
      (0 < len → ∃ b off, A = some ⟨b, off, none⟩ ∧ b < B ∧ ∀ k u, t.kids[k]? = some u → ∃ op2 n2 A2 l2 c2, CellE w b (off + k * 3) op2 n2 A2 l2 c2 ∧ RE w B d op2 n2 A2 l2 c2 u)

theorem CellE.keep {w w' : World} {b o : Nat} {op n : Int} {A : Option Addr} {len cap : Nat} (h : CellE w b o op n A len cap) (hk : ∀ p : Addr, p.block = b → w'.cell? p = w.cell? p) : CellE w' b o op n A len cap :=
  ⟨(hk _ rfl).trans h.1, (hk _ rfl).trans h.2.1, (hk _ rfl).trans h.2.2⟩
theorem RE.keep {w w' : World} {B : Nat} (hk : ∀ p : Addr, p.block < B → w'.cell? p = w.cell? p) : ∀ (d : Nat) (op n : Int) (A : Option Addr) (len cap : Nat) (t : T), RE w B d op n A len cap t → RE w' B d op n A len cap t
  | 0, _, _, _, _, _, _, h => h
  | d + 1, op, n, A, len, cap, t, ⟨h1, h2, h3, h4, h5, h6⟩ => ⟨h1, h2, h3, h4, h5, fun hl => by
      obtain ⟨b, off, e, hb, hc⟩ := h6 hl
      refine ⟨b, off, e, hb, fun k u hu => ?_⟩
      obtain ⟨op2, n2, A2, l2, c2, hce, hre⟩ := hc k u hu
      exact ⟨op2, n2, A2, l2, c2, hce.keep (fun p hp => hk p (by omega)), RE.keep hk d op2 n2 A2 l2 c2 u hre⟩⟩
theorem RE.below {w w' : World} {B d : Nat} {op n : Int} {A : Option Addr} {len cap : Nat} {t : T} (h : RE w B d op n A len cap t) (hb : Below B w w') : RE w' B d op n A len cap t :=
  RE.keep (fun _ hp => hb.cell hp) d op n A len cap t h
theorem RE.more {w : World} {B B' : Nat} (hB : B ≤ B') : ∀ (d : Nat) (op n : Int) (A : Option Addr) (len cap : Nat) (t : T), RE w B d op n A len cap t → RE w B' d op n A len cap t
  | 0, _, _, _, _, _, _, h => h
  | d + 1, op, n, A, len, cap, t, ⟨h1, h2, h3, h4, h5, h6⟩ => ⟨h1, h2, h3, h4, h5, fun hl => by
      obtain ⟨b, off, e, hb, hc⟩ := h6 hl
      refine ⟨b, off, e, by omega, fun k u hu => ?_⟩
      obtain ⟨op2, n2, A2, l2, c2, hce, hre⟩ := hc k u hu
      exact ⟨op2, n2, A2, l2, c2, hce, RE.more hB d op2 n2 A2 l2 c2 u hre⟩⟩
theorem RE.at_ {w : World} {B d k : Nat} {op n : Int} {A : Option Addr} {len cap : Nat} {t : T} (h : RE w B (d + 1) op n A len cap t) (hk : k < len) :
    ∃ b off u op2 n2 A2 l2 c2, A = some ⟨b, off, none⟩ ∧ b < B ∧ t.kids[k]? = some u ∧ CellE w b (off + k * 3) op2 n2 A2 l2 c2 ∧ RE w B d op2 n2 A2 l2 c2 u := by
  obtain ⟨_, _, h3, _, _, h6⟩ := h
  obtain ⟨b, off, e, hb, hc⟩ := h6 (by omega)
  have hkl : k < t.kids.length := by omega
  obtain ⟨op2, n2, A2, l2, c2, hce, hre⟩ := hc k _ (List.getElem?_eq_getElem hkl)
  exact ⟨b, off, _, op2, n2, A2, l2, c2, e, hb, List.getElem?_eq_getElem hkl, hce, hre⟩
def Box3 (w : World) (b : Nat) (op n : Int) (A : Option Addr) (len cap : Nat) : Prop := w.cell? ⟨b, 0, none⟩ = some (.int .i64 op) ∧ w.cell? ⟨b, 1, none⟩ = some (.int .i64 n) ∧ w.cell? ⟨b, 2, none⟩ = some (.slice A len cap)
theorem box_new (w : World) (op n : Int) (A : Option Addr) (len cap : Nat) (t : TypeId) : Box3 (w.alloc (.cells #[.int .i64 op, .int .i64 n, .slice A len cap] t)) w.heap.size op n A len cap := by
  unfold Box3
  simp [go_sem]
theorem Box3.below {w w' : World} {B b : Nat} {op n : Int} {A : Option Addr} {len cap : Nat} (h : Box3 w b op n A len cap) (hb : Below B w w') (hB : b < B) : Box3 w' b op n A len cap :=
  ⟨(hb.cell (by exact hB)).trans h.1, (hb.cell (by exact hB)).trans h.2.1, (hb.cell (by exact hB)).trans h.2.2⟩
theorem below_box {w wr w1 : World} {o : Obj} {B : Nat} (h : Below B w wr) (hB : B ≤ w.heap.size) (h1 : Below (wr.alloc o).heap.size (wr.alloc o) w1) : Below B w w1 :=
  (h.alloc (Nat.le_trans hB h.size) o).trans (h1.mono (by have := h.size; simp; omega))
theorem below_drewN {B : Nat} {a w : World} (h : Below B a w) (n : Nat) : Below B a (w.drewN n) := ⟨h.os, h.tape, h.output, h.size, h.block⟩
theorem drop_at {α : Type} {l : List α} {k : Nat} {v : α} (h : l[k]? = some v) : l.drop k = v :: l.drop (k + 1) := by
  obtain ⟨hk, rfl⟩ := List.getElem?_eq_some_iff.1 h
  exact List.drop_eq_getElem_cons hk

/- nodes up to a depth, as the reference counts them -/
mutual
def cnt : T → Int → Int → Int × Bool
  | .mk _ _ ks, deep, room => if deep = 12 then (1, decide (0 < ks.length)) else cntK ks deep room 1 false
def cntK : List T → Int → Int → Int → Bool → Int × Bool
  | [], _, room, n, over => (if room + 1 < n then room + 1 else n, over)
  | k :: r, deep, room, n, over => if room < n then (room + 1, over) else cntK r deep room (n + (cnt k (deep + 1) (room - n)).1) (over || (cnt k (deep + 1) (room - n)).2)
end
mutual
theorem cnt_bd : ∀ (t : T) (deep room : Int), 0 ≤ room → 1 ≤ (cnt t deep room).1 ∧ (cnt t deep room).1 ≤ room + 1
  | .mk o n ks, deep, room, h => by
    rw [cnt]
    split
    · simp; omega
    · exact cntK_bd ks deep room 1 false (by omega) (by omega)
theorem cntK_bd : ∀ (ks : List T) (deep room n : Int) (over : Bool), 1 ≤ n → n ≤ room + 1 → 1 ≤ (cntK ks deep room n over).1 ∧ (cntK ks deep room n over).1 ≤ room + 1
  | [], deep, room, n, over, h1, h2 => by
    rw [cntK]; simp only; split <;> omega
  | k :: r, deep, room, n, over, h1, h2 => by
    rw [cntK]
    split
    · simp; omega
    · have := cnt_bd k (deep + 1) (room - n) (by omega)
      exact cntK_bd r deep room _ _ (by omega) (by omega)
end
theorem cnt_12 (t : T) (room : Int) : cnt t 12 room = (1, decide (0 < t.kids.length)) := by
  cases t; rw [cnt, if_pos rfl]; rfl
theorem cnt_on (t : T) (deep room : Int) (h : ¬ deep = 12) : cnt t deep room = cntK t.kids deep room 1 false := by
  cases t; rw [cnt, if_neg h]; rfl
theorem cntK_end {ks : List T} {k : Nat} {deep room n : Int} {over : Bool} (h : ks.length ≤ k) : cntK (ks.drop k) deep room n over = (if room + 1 < n then room + 1 else n, over) := by
  rw [List.drop_of_length_le h, cntK]
theorem cntK_full {ks : List T} {k : Nat} {u : T} {deep room n : Int} {over : Bool} (h : ks[k]? = some u) (hn : room < n) : cntK (ks.drop k) deep room n over = (room + 1, over) := by
  rw [drop_at h, cntK, if_pos hn]
theorem cntK_step {ks : List T} {k : Nat} {u : T} {deep room n : Int} {over : Bool} (h : ks[k]? = some u) (hn : ¬ room < n) :
    cntK (ks.drop k) deep room n over = cntK (ks.drop (k + 1)) deep room (n + (cnt u (deep + 1) (room - n)).1) (over || (cnt u (deep + 1) (room - n)).2) := by
  rw [drop_at h, cntK, if_neg hn]
end Go.Proofs.YtbppdalfcldodaaGreat.Ex
