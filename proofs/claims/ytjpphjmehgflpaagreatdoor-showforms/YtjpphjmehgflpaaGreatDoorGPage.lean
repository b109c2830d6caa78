/- A page: the variables' slice and a strings.Builder in one block: what its writers do. What a page holds, handed back; strings put onto a page one after another. -/
import Derived.Test.YtjpphjmehgflpaaGreatDoorGMd
import Derived.Lib.OthersKept
import Derived.Lib.UnsafeStr
import Derived.Lib.Builder
import Derived.Lib.AppendStr
import Derived.KernelRfl
import Derived.WalkKit
namespace Go.Proofs.YtjpphjmehgflpaaGreatDoor
open Go.RowKit Ex
set_option linter.unusedSimpArgs false
set_option linter.unusedVariables false

def PgAt (B b : Nat) (s : SL) (p : Value) (bs : List UInt8) (w : World) : Prop :=
  B ≤ b ∧ ∃ v, w.heap[b]? = some (.cells #[s.v, p, v] 55 (0, 0)) ∧ w.ownsRow B 5 1 v bs.length (Lib.byteCells bs) ∧ v.ownBlock ≠ some b
def Pg (B b : Nat) (s : SL) (bs : List UInt8) (w : World) : Prop := PgAt B b s (.pointer none) bs w ∨ PgAt B b s (.pointer (some ⟨b, 1, none⟩)) bs w
/- what a writer keeps -/
def KP (B b : Nat) (w w' : World) : Prop := Below B w w' ∧ Lib.OthersKept 5 (some b) w w'
theorem KP.refl (B b : Nat) (w : World) : KP B b w w := ⟨Below.refl _ _, Lib.OthersKept.refl _ _ _⟩
theorem KP.trans {B b : Nat} {u v w : World} (h : KP B b u v) (k : KP B b v w) : KP B b u w := ⟨h.1.trans k.1, h.2.trans k.2⟩
theorem KP.alloc {B b : Nat} {u w : World} (h : KP B b u w) (hB : B ≤ w.heap.size) (o : Obj) : KP B b u (w.alloc o) := ⟨h.1.alloc hB o, h.2.alloc o⟩
theorem KP.of_below {B b : Nat} {u w : World} (h : Below u.heap.size u w) (hB : B ≤ u.heap.size) : KP B b u w :=
  ⟨h.mono hB, fun k o hk _ _ => (h.block k (Array.getElem?_eq_some_iff.1 hk).1).trans hk⟩
theorem KP.size {B b : Nat} {u w : World} (h : KP B b u w) : u.heap.size ≤ w.heap.size := h.1.size
/- a block that is no row of bytes, and not the page's -/
theorem KP.at_ {B b : Nat} {u w : World} (h : KP B b u w) {k : Nat} {cs : Array Value} {t : TypeId} {fz : Nat × Nat} (hk : u.heap[k]? = some (.cells cs t fz)) (ht : t ≠ 5) (hb : k ≠ b) : w.heap[k]? = some (.cells cs t fz) :=
  h.2 k _ hk (fun e => hb (Option.some.inj e)) (fun c f e => ht (by injection e))
theorem PgAt.lt {B b : Nat} {s : SL} {p : Value} {bs : List UInt8} {w : World} (h : PgAt B b s p bs w) : b < w.heap.size := by
  obtain ⟨_, v, hb, _⟩ := h
  exact (Array.getElem?_eq_some_iff.1 hb).1
theorem Pg.lt {B b : Nat} {s : SL} {bs : List UInt8} {w : World} (h : Pg B b s bs w) : b < w.heap.size := h.elim (·.lt) (·.lt)
theorem Pg.ge {B b : Nat} {s : SL} {bs : List UInt8} {w : World} (h : Pg B b s bs w) : B ≤ b := h.elim (·.1) (·.1)
theorem Pg.vars {B b : Nat} {s : SL} {bs : List UInt8} {w : World} (h : Pg B b s bs w) : w.cell? ⟨b, 0, none⟩ = some s.v := by
  rcases h with ⟨_, v, hb, _⟩ | ⟨_, v, hb, _⟩ <;> (rw [Lib.cell_of_heap hb]; rfl)
/- whatever keeps all old blocks keeps a page -/
theorem PgAt.below {B b : Nat} {s : SL} {p : Value} {bs : List UInt8} {u w : World} (h : PgAt B b s p bs u) (k : Below u.heap.size u w) : PgAt B b s p bs w := by
  have hl := h.lt
  obtain ⟨hB, v, hb, hown, hne⟩ := h
  refine ⟨hB, v, (k.block b hl).trans hb, ⟨hown.1, ?_⟩, hne⟩
  rcases hown.2 with hn | ⟨g, cap, cur, hv, hbg, hg, rest⟩
  · exact .inl hn
  · exact .inr ⟨g, cap, cur, hv, hbg, (k.block g (Array.getElem?_eq_some_iff.1 hg).1).trans hg, rest⟩
theorem Pg.below {B b : Nat} {s : SL} {bs : List UInt8} {u w : World} (h : Pg B b s bs u) (k : Below u.heap.size u w) : Pg B b s bs w := h.elim (fun x => .inl (x.below k)) (fun x => .inr (x.below k))
theorem Pg.alloc {B b : Nat} {s : SL} {bs : List UInt8} {u : World} (h : Pg B b s bs u) (o : Obj) : Pg B b s bs (u.alloc o) := h.below ((Below.refl _ _).alloc (Nat.le_refl _) o)
theorem Pg.new {s : SL} {B : Nat} (w : World) (hB : B ≤ w.heap.size) : Pg B w.heap.size s [] (w.alloc (.cells #[s.v, .pointer none, .slice none 0 0] 55)) :=
  .inl ⟨hB, .slice none 0 0, heap_alloc_new w _, World.ownsRow_nil _ _ _ _, by simp [Value.ownBlock]⟩

theorem info56 : ∃ j, Tryz.prog.info? 53 = some j ∧ j.size = 2 := by
  obtain ⟨j, h, e⟩ := Option.map_eq_some_iff.1 (show (Tryz.prog.info? 53).map (·.size) = some 2 by kernel_rfl)
  exact ⟨j, h, e⟩
theorem u53 : Tryz.prog.underlying 50 = some (.pointer 53) := by kernel_rfl
theorem u123 : Tryz.prog.underlying 124 = some .unsafePointer := by kernel_rfl
theorem lies56 : liesAt Tryz.prog Tryz.prog.depth 55 (3 / Tryz.prog.cellsOf 55) 1 53 1 = true := by kernel_rfl

set_option maxHeartbeats 1000000 in
set_option maxRecDepth 100000 in
theorem check_used (b : Nat) (w : World) (h0 : w.cell? ⟨b, 1, none⟩ = some (.pointer (some ⟨b, 1, none⟩))) :
    Calls Tryz.prog 83 #[.pointer (some ⟨b, 1, none⟩)] w fun e w' => e = .returned (.tuple #[]) ∧ w' = w := by
  obtain ⟨j, hj, _⟩ := info56
  go_enter Tryz.func83, Tryz.ntmps83
  go_wp2
  rw [Lib.run_neq_ptr_same w _ u53 hj]
  go_wp2
  go_end0
  exact ⟨rfl, rfl⟩

set_option maxHeartbeats 1000000 in
set_option maxRecDepth 100000 in
theorem check_fresh (b : Nat) (w : World) (h0 : w.cell? ⟨b, 1, none⟩ = some (.pointer none)) (hsh : w.shape? b = some (55, 3)) (hfz : w.frozen? ⟨b, 1, none⟩ = false) :
    Calls Tryz.prog 83 #[.pointer (some ⟨b, 1, none⟩)] w fun e w' => e = .returned (.tuple #[]) ∧ w' = w.setCell ⟨b, 1, none⟩ (.pointer (some ⟨b, 1, none⟩)) := by
  obtain ⟨j, hj, hjs⟩ := info56
  go_enter Tryz.func83, Tryz.ntmps83
  go_wp2
  rw [Lib.run_to_unsafe w ⟨b, 1, none⟩ u53 u123 hj (by rw [hjs]; decide) hsh (by show 1 < 3; decide)]
  simp only [Result.andThen]
  rw [Oper.upon_value]
  go_wp2
  rw [run_callFunc_extern Tryz.func95 (by kernel_rfl) (by kernel_rfl) (by kernel_rfl) (e := Extern.AbiNoEscape.same) (by kernel_rfl)]
  rw [Lib.run_noEscape]
  simp only [Result.andThen]
  rw [Oper.upon_value]
  go_wp2
  rw [Lib.run_from_unsafe w ⟨b, 1, none⟩ u123 u53 hj hsh lies56]
  simp only [Result.andThen]
  rw [Oper.upon_value]
  go_wp2
  go_end0
  exact ⟨rfl, rfl⟩

theorem PgAt.used {B b : Nat} {s : SL} {p : Value} {bs : List UInt8} {w : World} (h : PgAt B b s p bs w) (q : Value) : PgAt B b s q bs (w.setCell ⟨b, 1, none⟩ q) := by
  obtain ⟨hB, v, hb, hown, hne⟩ := h
  refine ⟨hB, v, ?_, ?_, hne⟩
  · simp [World.setCell, Array.getElem?_modify, hb]
  · refine hown.kept (row := some b) ⟨rfl, rfl, rfl, by simp [World.setCell], fun k _ hk => Below.heap_setCell _ _ _ _ (fun e => hk (by simp [e]))⟩ ?_
    exact Or.inr hne
theorem PgAt.put {B b : Nat} {s : SL} {p v v' : Value} {bs : List UInt8} {w : World} (hB : B ≤ b) (hb : w.heap[b]? = some (.cells #[s.v, p, v] 55 (0, 0))) (hown : w.ownsRow B 5 1 v' bs.length (Lib.byteCells bs)) : PgAt B b s p bs (w.setCell ⟨b, 2, none⟩ v') := by
  have hne := Lib.ownBlock_ne hown hb (by decide)
  refine ⟨hB, v', ?_, ?_, hne⟩
  · simp [World.setCell, Array.getElem?_modify, hb]
  · exact hown.kept (row := some b) ⟨rfl, rfl, rfl, by simp [World.setCell], fun k _ hk => Below.heap_setCell _ _ _ _ (fun e => hk (by simp [e]))⟩ (Or.inr hne)
theorem check_any (B b : Nat) (s : SL) (bs : List UInt8) (w : World) (h : Pg B b s bs w) :
    Calls Tryz.prog 83 #[.pointer (some ⟨b, 1, none⟩)] w fun e w' => e = .returned (.tuple #[]) ∧ PgAt B b s (.pointer (some ⟨b, 1, none⟩)) bs w' ∧ KP B b w w' := by
  rcases h with h | h
  · have hc := h
    obtain ⟨hB, v, hb, _⟩ := hc
    refine (check_fresh b w (by rw [Lib.cell_of_heap hb]; rfl) (by simp [World.shape?, hb]) (Lib.frozen_of_heap hb 1)).mono ?_
    rintro e w' ⟨rfl, rfl⟩
    exact ⟨rfl, h.used _, (Below.refl B w).setCell (p := ⟨b, 1, none⟩) h.1 _, (Lib.OthersKept.refl _ _ w).setCell ⟨b, 1, none⟩ rfl _⟩
  · have hc := h
    obtain ⟨hB, v, hb, _⟩ := hc
    refine (check_used b w (by rw [Lib.cell_of_heap hb]; rfl)).mono ?_
    rintro e w' ⟨rfl, rfl⟩
    exact ⟨rfl, h, KP.refl _ _ _⟩
theorem info5 : ∃ i, Tryz.prog.info? 5 = some i ∧ i.zero = some (.int .u8 0) ∧ i.size = 1 ∧ i.bytes = 1 := by
  obtain ⟨i, h, e⟩ := Option.map_eq_some_iff.1 (show (Tryz.prog.info? 5).map (fun i => (i.zero, i.size, i.bytes)) = some (some (.int .u8 0), 1, 1) by kernel_rfl)
  simp only [Prod.mk.injEq] at e
  exact ⟨i, h, e⟩
theorem u54 : Tryz.prog.underlying 51 = some (.slice 5) := by kernel_rfl
theorem u9 : Tryz.prog.underlying 9 = some .string := by kernel_rfl
theorem own_kind {w : World} {B : Nat} {e : TypeId} {v : Value} {n : Nat} {xs : List Value} (h : w.ownsRow B e 1 v n xs) : ∀ g, v.ownBlock = some g → ∃ c fz, w.heap[g]? = some (.cells c e fz) := by
  intro g hg
  rcases h.2 with ⟨rfl, _⟩ | ⟨g', cap, cur, rfl, _, hgg, _⟩
  · simp [Value.ownBlock] at hg
  · simp [Value.ownBlock] at hg
    subst hg
    exact ⟨cur, (0, 0), hgg⟩

set_option maxHeartbeats 2000000 in
set_option maxRecDepth 100000 in
theorem write_any (B b : Nat) (s : SL) (bs : List UInt8) (x : ByteArray) (w : World) (h : Pg B b s bs w) (hlen : bs.length + x.size ≤ 140737488355328) (hBw : B ≤ w.heap.size) :
    Calls Tryz.prog 61 #[.pointer (some ⟨b, 1, none⟩), .string x] w fun e w' => e = .returned (.tuple #[.int .i64 x.size, .nilIface]) ∧ Pg B b s (bs ++ x.data.toList) w' ∧ KP B b w w' := by
  obtain ⟨i0, hi, hz0, hz1, hz2⟩ := info5
  go_enter Tryz.func61, Tryz.ntmps61
  go_wp2_with (go_at_call 83; refine (check_any B b s bs _ h).mono ?_)
  rintro e w1 ⟨rfl, h1, hk1⟩
  obtain ⟨hb1, ho1⟩ := hk1
  obtain ⟨hB, v, hbk, hown, hne⟩ := h1
  have c1 : w1.cell? ⟨b, 2, none⟩ = some v := by rw [Lib.cell_of_heap hbk]; rfl
  go_wp2_with (at_builtin; refine Lib.wpList_append_own_string _ rfl _ _ 51 9 rfl B 5 i0 u54 u9 hi hz0 hz1 hz2 _ _ _ rfl hown x rfl ?c3 ?c4 ?c5 ?_)
  case c3 => unfold maxLen; omega
  case c4 => omega
  case c5 => have := hb1.size; omega
  intro v' w2 hown' hgrow _
  have hlt : b < w1.heap.size := (Array.getElem?_eq_some_iff.1 hbk).1
  have hb2 : w2.heap[b]? = some (.cells #[s.v, .pointer (some ⟨b, 1, none⟩), v] 55 (0, 0)) := by
    rw [hgrow.block b hlt (fun e => hne e.symm)]
    exact hbk
  have d1 : w2.cell? ⟨b, 2, none⟩ = some v := by rw [Lib.cell_of_heap hb2]; rfl
  have f1 : w2.frozen? ⟨b, 2, none⟩ = false := Lib.frozen_of_heap hb2 2
  obtain ⟨ao, n', cap, rfl⟩ : ∃ ao n' cap, v' = .slice ao n' cap := by
    rcases hown'.2 with ⟨hv, _⟩ | ⟨g, cap, cur, hv, _⟩
    · exact ⟨_, _, _, hv⟩
    · exact ⟨_, _, _, hv⟩
  go_wp2
  go_ret2
  refine ⟨rfl, .inr (PgAt.put hB hb2 ?_), ?_, ?_⟩
  · have := hown'
    rw [Lib.byteCells_append, ← Lib.strCells_eq, List.length_append, show x.data.toList.length = x.size by simp]
    exact this
  · exact (hb1.grown hgrow (by have := hb1.size; omega) (fun k hk => (hown.lt k hk).1)).setCell (p := ⟨b, 2, none⟩) hB _
  · exact (ho1.grown hgrow (own_kind hown)).setCell ⟨b, 2, none⟩ rfl _
end Go.Proofs.YtjpphjmehgflpaaGreatDoor
namespace Go.Proofs.YtjpphjmehgflpaaGreatDoor
open Go.RowKit Ex
set_option linter.unusedSimpArgs false
set_option linter.unusedVariables false

theorem u83 : Tryz.prog.underlying 73 = some (.pointer 5) := by kernel_rfl
theorem cells5 : Tryz.prog.cellsOf 5 = 1 := by kernel_rfl

set_option maxHeartbeats 1000000 in
set_option maxRecDepth 100000 in
theorem string_any (B b : Nat) (s : SL) (l : List UInt8) (w : World) (h : Pg B b s l w) (h0 : l ≠ []) :
    Calls Tryz.prog 17 #[.pointer (some ⟨b, 1, none⟩)] w fun e w' => e = .returned (.string ⟨l.toArray⟩) ∧ Below B w w' := by
  obtain ⟨p, hB, v, hbk, hown, hne⟩ : ∃ p, PgAt B b s p l w := by
    rcases h with h | h
    · exact ⟨_, h⟩
    · exact ⟨_, h⟩
  have hl0 : l.length ≠ 0 := by simpa using h0
  obtain ⟨g, cap, cur, rfl, hbg, hg, hnc, hcm, hcs, htake⟩ : ∃ g cap cur, v = .slice (some ⟨g, 0, none⟩) l.length cap ∧ B ≤ g ∧ w.heap[g]? = some (.cells cur 5 (0, 0)) ∧ l.length ≤ cap ∧ cap ≤ maxLen ∧ cur.size = cap * 1 ∧ cur.toList.take (l.length * 1) = Lib.byteCells l := by
    rcases hown.2 with ⟨_, hz⟩ | ⟨g, cap, cur, hv, r⟩
    · exact absurd hz hl0
    · exact ⟨g, cap, cur, hv, r⟩
  have c1 : w.drew.cell? ⟨b, 2, none⟩ = some (.slice (some ⟨g, 0, none⟩) l.length cap) := by
    have : w.drew.heap[b]? = some (.cells #[s.v, p, .slice (some ⟨g, 0, none⟩) l.length cap] 55 (0, 0)) := hbk
    rw [Lib.cell_of_heap this]; rfl
  have hSD : (Builtin.unsafeSliceData_ #[51] 73 #[.slice (some ⟨g, 0, none⟩) l.length cap]).run Tryz.prog w.drew = .ok (.pointer (some ⟨g, 0, none⟩)) w.drew :=
    Lib.run_unsafeSliceData_row _ _ _ _ _ _ (by omega)
  have hUS : (Builtin.unsafeString_ #[73, 3] 9 #[.pointer (some ⟨g, 0, none⟩), .int .i64 l.length]).run Tryz.prog w.drew = .ok (.string ⟨l.toArray⟩) (w.drew.freeze ⟨g, 0, none⟩ l.length) := by
    refine Lib.run_unsafeString_row w.drew 73 3 9 5 u83 cells5 g cur.size (by have hg' : w.drew.heap[g]? = some (.cells cur 5 (0, 0)) := hg; simp [World.shape?, hg']) l h0 (by omega) (by unfold maxLen at hcm; omega) ?_
    intro j x hx
    have := hown.cells (g := g) rfl j (.int .u8 x.toNat) (by simp [Lib.byteCells, hx])
    exact this
  go_enter Tryz.func17, Tryz.ntmps17
  go_wp2
  go_region
  all_goals (go_wp2; go_ret; exact ⟨rfl, Lib.below_freeze (Below.drew (Below.refl B w)) (p := ⟨g, 0, none⟩) hbg _⟩)

def catB (ss : List ByteArray) : List UInt8 := (ss.map (·.data.toList)).flatten
def strR (ss : List ByteArray) : Array Value := (ss.map Value.string).toArray
theorem cat_take {ss : List ByteArray} {k : Nat} {x : ByteArray} (h : ss[k]? = some x) : catB (ss.take (k + 1)) = catB (ss.take k) ++ x.data.toList := by
  obtain ⟨hk, rfl⟩ := List.getElem?_eq_some_iff.1 h
  unfold catB
  rw [List.take_succ_eq_append_getElem hk, List.map_append, List.flatten_append]; simp
theorem cat_le {ss : List ByteArray} {k : Nat} : (catB (ss.take k)).length ≤ (catB ss).length := by
  have : catB ss = catB (ss.take k) ++ catB (ss.drop k) := by unfold catB; rw [← List.flatten_append, ← List.map_append, List.take_append_drop]
  rw [this]; simp

set_option maxHeartbeats 1000000 in
theorem put_any (B b g : Nat) (s : SL) (bs : List UInt8) (ss : List ByteArray) (n : Nat) (w : World) (hn : n = ss.length) (hsm : n ≤ 8) (hg : w.heap[g]? = some (.cells (strR ss) 9 (0, 0))) (hgb : g ≠ b) (hP : Pg B b s bs w) (hlen : bs.length + (catB ss).length ≤ 140737488355328) (hB : B ≤ w.heap.size) :
    Calls Tryz.prog 34 #[.pointer (some ⟨b, 0, none⟩), .slice (some ⟨g, 0, none⟩) n n] w fun e w' => e = .returned (.tuple #[]) ∧ Pg B b s (bs ++ catB ss) w' ∧ KP B b w w' := by
  have Hn := hide hn; clear hn
  have Hg := hide hg; clear hg
  have HP := hide hP; clear hP
  have Hlen := hide hlen; clear hlen
  go_enter Tryz.func34, Tryz.ntmps34
  go_wp2_with fail
  go_loopw [8] (fun i wr => ∃ (k : Nat), k ≤ n ∧ i = .int .i64 k ∧ Hid (Pg B b s (bs ++ catB (ss.take k)) wr) ∧ Hid (KP B b w wr)) (fun i _ => n - (intOf i).toNat)
  case atStart => exact ⟨0, Nat.zero_le _, rfl, hide (by simpa [catB] using HP.out), hide (KP.refl _ _ _)⟩
  case round =>
    obtain ⟨k, hk, rfl, Hp, Hk⟩ := hrel
    have hsz := Hk.out.size
    by_cases hlt : k < n
    · obtain ⟨x, hx⟩ : ∃ x, ss[k]? = some x := ⟨_, List.getElem?_eq_getElem (by have := Hn.out; omega)⟩
      have Hx := hide hx; clear hx
      have hc : wr.cell? ⟨g, k, none⟩ = some (.string x) := by
        rw [Lib.cell_of_heap (Hk.out.at_ Hg.out (by decide) hgb)]
        simp [strR, Hx.out]
      have hlt' : ((k : Int) < (n : Int)) := by omega
      have Hl2 : Hid ((bs ++ catB (ss.take k)).length + x.size ≤ 140737488355328) := hide (by
        have h1 := Hlen.out
        have h2 := cat_le (ss := ss) (k := k + 1)
        rw [cat_take Hx.out] at h2
        simp only [List.length_append] at h2 ⊢
        have : x.data.toList.length = x.size := by simp
        omega)
      go_wp2_with fail
      refine (write_any B b s _ x _ Hp.out Hl2.out (by omega)).mono ?_
      rintro e w1 ⟨rfl, hp1, hk1⟩
      have Hp1 := hide hp1; have Hk1 := hide hk1; clear hp1 hk1
      go_wp2_with fail
      go_roundw
      case rel => exact ⟨k + 1, hlt, by go_num, hide (by rw [cat_take Hx.out, ← List.append_assoc]; exact Hp1.out), hide (Hk.out.trans Hk1.out)⟩
      case measure => simp [intOf]; omega
    · have hlt' : ¬ ((k : Int) < (n : Int)) := by omega
      have Hkn : Hid (ss.length ≤ k) := hide (by have := Hn.out; omega)
      go_wp2_with fail
      go_end0
      refine ⟨rfl, ?_, Hk.out⟩
      have := Hp.out
      rw [List.take_of_length_le Hkn.out] at this
      exact this
end Go.Proofs.YtjpphjmehgflpaaGreatDoor
