/- Vertices and rows of them in memory; the map of their numbers; what was found. -/
import Derived.Test.YtbppdalfcldodaaGreatADefs
import Derived.Test.YtbppdalfcldodaaGreatGSm
import Derived.Test.YtbppdalfcldodaaGreatGNest
import Derived.Maps.OwnOps
import Derived.Maps.OwnSet
import Derived.DeepKeys4
import Derived.Lib.Builder
import Derived.Laws.AppendOwn
import Derived.Deep.AppendLies
set_option maxRecDepth 100000
namespace Go.Proofs.YtbppdalfcldodaaGreat
open Go.RowKit Ex Go.WideMaps Go.Maps
set_option linter.unusedSimpArgs false
set_option linter.unusedVariables false

def vxC (x : Vx) : List Value := [.int .i64 x.1, .int .i64 x.2.1, .int .i64 x.2.2]
def vxV (x : Vx) : Value := .agg #[.int .i64 x.1, .int .i64 x.2.1, .int .i64 x.2.2]
def vxs (l : List Vx) : List Value := (l.map vxC).flatten
theorem vxs_snoc (l : List Vx) (x : Vx) : vxs l ++ vxC x = vxs (l ++ [x]) := by simp [vxs]
theorem vxs_len : ∀ l : List Vx, (vxs l).length = l.length * 3
  | [] => rfl
  | x :: r => by
    have := vxs_len r
    unfold vxs at this ⊢
    rw [List.map_cons, List.flatten_cons, List.length_append, this, List.length_cons, Nat.succ_mul]
    show 3 + _ = _; omega
def VxAt (w : World) (B b o : Nat) (x : Vx) : Prop := w.cell? ⟨b, o, none⟩ = some (.int .i64 x.1) ∧ w.cell? ⟨b, o + 1, none⟩ = some (.int .i64 x.2.1) ∧ w.cell? ⟨b, o + 2, none⟩ = some (.int .i64 x.2.2)
def RVx (w : World) (B : Nat) (s : SL) (l : List Vx) : Prop := Rows VxAt 3 w B s l
theorem vx_chunk (l : List Vx) : Chunk 3 (fun ch (a : Vx) => ch = vxC a) (l.map vxC) l :=
  ⟨by simp, fun ch h => by
    obtain ⟨a, _, rfl⟩ := List.mem_map.1 h
    exact ⟨rfl, by simp [vxC, Value.oneCell']⟩, fun k ch a h1 h2 => by
    rw [List.getElem?_map, h2] at h1
    exact (Option.some.inj h1).symm⟩
theorem vx_rows {w : World} {base n c : Nat} {O : Option Addr} {l : List Vx} (h : w.ownsRow base 57 3 (.slice O n c) n (vxs l)) : RVx w w.heap.size ⟨O, n, c⟩ l :=
  own_rows (by omega) h (vx_chunk l) (fun b o ch a _ e hc => by
    subst e
    exact ⟨by have := hc 0 _ rfl; simpa using this, hc 1 _ rfl, hc 2 _ rfl⟩)
section
variable {w w' : World} {B B' : Nat} {s : SL} {l : List Vx}
theorem RVx.below (h : RVx w B s l) (hb : Below B w w') : RVx w' B s l := h.keep fun b o x h1 hx => ⟨(hb.cell (by exact h1)).trans hx.1, (hb.cell (by exact h1)).trans hx.2.1, (hb.cell (by exact h1)).trans hx.2.2⟩
theorem RVx.more (h : RVx w B s l) (hB : B ≤ B') : RVx w B' s l := Rows.more h hB fun _ _ _ hx => hx
theorem RVx.at_ {A : Option Addr} {n c k : Nat} (h : RVx w B ⟨A, n, c⟩ l) (hk : k < n) : ∃ b off p q r, A = some ⟨b, off, none⟩ ∧ b < B ∧ l[k]? = some (p, q, r) ∧ w.cell? ⟨b, off + k * 3, none⟩ = some (.int .i64 p) ∧ w.cell? ⟨b, off + k * 3 + 1, none⟩ = some (.int .i64 q) ∧ w.cell? ⟨b, off + k * 3 + 2, none⟩ = some (.int .i64 r) := by
  obtain ⟨b, off, ⟨p, q, r⟩, h1, h2, h3, h4, h5, h6⟩ := Rows.at_ h hk
  exact ⟨b, off, p, q, r, h1, h2, h3, h4, h5, h6⟩
end

/- the keys -/
def SmI (x : Int) : Prop := 0 ≤ x ∧ x < 4611686018427387904
def SmV (x : Vx) : Prop := SmI x.1 ∧ SmI x.2.1 ∧ SmI x.2.2
theorem SmI.wf {x : Int} (h : SmI x) : (Lit.int .i64 x).wf = true := WalkArith.wf_i64 (by obtain ⟨h1, h2⟩ := h; omega)
theorem okV_sm {T : Nat} {x : Vx} (hT : T ≤ 4096) (h : OkV (T : Int) x) : SmV x := by
  rcases h with rfl | ⟨p, rfl, h1, h2⟩ | ⟨s, rfl, h1, h2⟩ | ⟨s, p, rfl, h1, h2, h3, h4⟩
  · exact ⟨⟨by decide, by decide⟩, ⟨by decide, by decide⟩, ⟨by decide, by decide⟩⟩
  · exact ⟨⟨by show (0 : Int) ≤ 2; omega, by show (2 : Int) < _; omega⟩, ⟨by show (0 : Int) ≤ 0; omega, by show (0 : Int) < _; omega⟩, ⟨h1, by show p < _; omega⟩⟩
  · exact ⟨⟨by show (0 : Int) ≤ 3; omega, by show (3 : Int) < _; omega⟩, ⟨h1, by show s < _; omega⟩, ⟨by show (0 : Int) ≤ 0; omega, by show (0 : Int) < _; omega⟩⟩
  · exact ⟨⟨by show (0 : Int) ≤ 4; omega, by show (4 : Int) < _; omega⟩, ⟨h1, by show s < _; omega⟩, ⟨h3, by show p < _; omega⟩⟩
theorem laidOutA : laidOutB Tryz.prog = true := by kernel_rfl
theorem rowVx : (57 : TypeId) < Tryz.prog.types.size := of_decide_eq_true (by kernel_rfl)
theorem wideVx : (match Tryz.prog.underlying 57 with | some (.array _ _) | some (.struct _) => true | _ => false) = true := by kernel_rfl
theorem lawVx : Keyed Tryz.prog 57 := Keyed.of_law (deep_law_laid laidOutA (m := 2) (by omega) rowVx (by kernel_rfl) wideVx)
def keyL (x : Vx) : Lit := .string (keyBytes [.int .i64 x.1, .int .i64 x.2.1, .int .i64 x.2.2])
theorem typesN : Tryz.prog.types.size = 198 := by kernel_rfl
theorem cells57 : Tryz.prog.cellsOf 57 = 3 := by kernel_rfl
theorem cells3 : Tryz.prog.cellsOf 3 = 1 := by kernel_rfl
theorem keyType57 : Tryz.prog.keyType 57 = true := by kernel_rfl
theorem lits3 (d : Nat) {x : Int} (h : SmI x) : Tryz.prog.keyLits (d + 1) 3 [.int .i64 x] = some [.int .i64 x] := by
  unfold Program.keyLits
  simp [Tryz.underlying3, h.wf]
theorem key_of {x : Vx} (h : SmV x) : keyOf Tryz.prog 57 (vxV x) = some (keyL x) := by
  obtain ⟨a, b, c⟩ := x
  obtain ⟨h1, h2, h3⟩ := h
  simp only at h1 h2 h3
  have hl : Tryz.prog.keyLits (198 + 1) 57 [.int .i64 a, .int .i64 b, .int .i64 c] = some [.int .i64 a, .int .i64 b, .int .i64 c] := by
    unfold Program.keyLits
    simp [Tryz.underlying57, cells57, cells3, lits3 197 h1, lits3 197 h2, lits3 197 h3]
  unfold keyOf
  rw [typesN]
  simp only [Nat.reduceAdd] at hl
  simp [Tryz.underlying57, keyType57, vxV, Value.formed, cells57, Value.cells, hl, keyL]
theorem vxV_inj {x y : Vx} (h : vxV x = vxV y) : x = y := by
  obtain ⟨a, b, c⟩ := x
  obtain ⟨d, e, f⟩ := y
  simp [vxV] at h
  obtain ⟨rfl, rfl, rfl⟩ := h; rfl
theorem keyL_inj {x y : Vx} (hx : SmV x) (hy : SmV y) (h : keyL x = keyL y) : x = y := vxV_inj (lawVx.inj (key_of hx) (by rw [h]; exact key_of hy))
theorem key_is {x : Vx} (hx : SmV x) : WideAt.IsKeyLit (keyL x) := lawVx.key (key_of hx)
/- a map of the numbers of what is on a list -/
def NumIs (D : DataW Unit) (l : List Vx) : Prop := ∀ x : Vx, SmV x → Maps.has D (keyL x) = decide (x ∈ l) ∧ (x ∈ l → D.atKey (keyL x) (.lit (.int .i64 0)) = .lit (.int .i64 (numI l x)))
theorem NumIs.start : NumIs (.map []) [] := fun x _ => ⟨by simp [Maps.has], fun h => by cases h⟩
theorem numI_new {l : List Vx} {x : Vx} (h : x ∉ l) : numI (l ++ [x]) x = (l.length : Int) := by
  unfold numI
  rw [List.idxOf_append, if_neg h]
  simp
theorem NumIs.put {D : DataW Unit} {l : List Vx} {x : Vx} (h : NumIs D l) (hD : IsMap D) (hx : SmV x) (hn : x ∉ l) : NumIs (D.put (keyL x) (.lit (.int .i64 (l.length : Int)))) (l ++ [x]) := fun y hy => by
  by_cases e : y = x
  · subst e
    exact ⟨by rw [has_put_same hD (key_is hx)]; simp, fun _ => by rw [atKey_put_same hD (key_is hx), numI_new hn]⟩
  · have hk : keyL y ≠ keyL x := fun hh => e (keyL_inj hy hx hh)
    obtain ⟨h1, h2⟩ := h y hy
    refine ⟨by rw [has_put_other hk, h1]; simp [e], fun hm => ?_⟩
    have hm2 : y ∈ l := by
      rcases List.mem_append.1 hm with hm | hm
      · exact hm
      · simp at hm; exact absurd hm e
    rw [atKey_put_other hk, h2 hm2, numI_pre hm2]
/- what a step leaves: all but some blocks; what these are afterwards -/
structure Fr (H H' : List Nat) (w w' : World) : Prop where
  os : w'.os = w.os
  tape : w'.tape = w.tape
  output : w'.output = w.output
  size : w.heap.size ≤ w'.heap.size
  block : ∀ k, k < w.heap.size → k ∉ H → w'.heap[k]? = w.heap[k]?
  new : ∀ k ∈ H', k ∈ H ∨ w.heap.size ≤ k
section
variable {H H' H'' : List Nat} {u v w : World}
theorem Fr.refl (H : List Nat) (w : World) : Fr H H w w := ⟨rfl, rfl, rfl, Nat.le_refl _, fun _ _ _ => rfl, fun _ h => .inl h⟩
theorem Fr.trans (h : Fr H H' u v) (k : Fr H' H'' v w) : Fr H H'' u w :=
  ⟨k.os.trans h.os, k.tape.trans h.tape, k.output.trans h.output, Nat.le_trans h.size k.size, fun i hi hn => (k.block i (Nat.lt_of_lt_of_le hi h.size) (fun hm => by
    rcases h.new i hm with h1 | h1
    · exact hn h1
    · omega)).trans (h.block i hi hn), fun i hm => by
    rcases k.new i hm with h1 | h1
    · exact h.new i h1
    · exact .inr (Nat.le_trans h.size h1)⟩
theorem Fr.of_below (hb : Below u.heap.size u v) : Fr H H u v := ⟨hb.os, hb.tape, hb.output, hb.size, fun k hk _ => hb.block k hk, fun _ h => .inl h⟩
theorem Fr.low {B : Nat} (h : Fr H H' u w) (hB : ∀ k ∈ H, B ≤ k) (hz : B ≤ u.heap.size) : Below B u w := ⟨h.os, h.tape, h.output, h.size, fun k hk => h.block k (by omega) (fun hm => by have := hB k hm; omega)⟩
theorem Fr.heap {k : Nat} {o : Obj} (h : Fr H H' u w) (hk : u.heap[k]? = some o) (hb : k ∉ H) : w.heap[k]? = some o := (h.block k (Array.getElem?_eq_some_iff.1 hk).1 hb).trans hk
theorem Fr.of_grown {b : Nat} (hg : u.grownBy v (some b)) (hb : b ∈ H) : Fr H H u v := ⟨hg.os, hg.tape, hg.output, hg.size, fun k hk hn => hg.block k hk (fun e => hn (by injection e with e; rw [e]; exact hb)), fun _ h => .inl h⟩
theorem Fr.sub {K : List Nat} (h : Fr H H' u w) (hs : ∀ k ∈ H, k ∈ K) (hk : ∀ k ∈ K, k < u.heap.size) : Fr K (H' ++ K.filter (fun k => decide (k ∉ H))) u w :=
  ⟨h.os, h.tape, h.output, h.size, fun k hk hn => h.block k hk (fun hm => hn (hs k hm)), fun k hm => by
    rcases List.mem_append.1 hm with h1 | h1
    · rcases h.new k h1 with h2 | h2
      · exact .inl (hs k h2)
      · exact .inr h2
    · exact .inl (List.mem_filter.1 h1).1⟩
end
theorem setCell_fr {H : List Nat} {b i : Nat} {x : Value} {w : World} (hb : b ∈ H) : Fr H H w (w.setCell ⟨b, i, none⟩ x) :=
  ⟨rfl, rfl, rfl, by simp [World.setCell], fun k hk hn => Below.heap_setCell _ _ _ _ (fun e => hn (by subst e; exact hb)), fun _ h => .inl h⟩
/- what was found: its box, its map, its row -/
def SL.own (s : SL) : List Nat := s.A.toList.map Addr.block
structure FS (w : World) (lo F M : Nat) (s : SL) (l : List Vx) : Prop where
  box : w.heap[F]? = some (.cells #[s.v, .map (some M)] 78 (0, 0))
  map : ∃ n D, n ≤ l.length ∧ w.ownsMap Tryz.prog 57 (plainElem (H := Unit) Tryz.prog 3) M n D ∧ NumIs D l
  row : w.ownsRow lo 57 3 s.v s.n (vxs l)
  len : s.n = l.length
  fm : F ≠ M
  fr : ∀ k ∈ s.own, k ≠ F ∧ k ≠ M
def fsH (F M : Nat) (s : SL) : List Nat := F :: M :: s.own
section
variable {w w' : World} {lo F M : Nat} {s s' : SL} {l : List Vx}
theorem own_mem {s : SL} {k : Nat} : k ∈ s.own ↔ s.v.ownBlock = some k := by
  obtain ⟨A, n, c⟩ := s
  cases A <;> simp [SL.own, SL.v, Value.ownBlock, eq_comm]
theorem FS.row_lt (h : FS w lo F M s l) : ∀ k ∈ s.own, lo ≤ k ∧ k < w.heap.size := fun k hk => h.row.lt k (own_mem.1 hk)
theorem FS.keep (h : FS w lo F M s l) (hk : ∀ k ∈ fsH F M s, w'.heap[k]? = w.heap[k]?) : FS w' lo F M s l := by
  obtain ⟨n, D, h1, h2, h3⟩ := h.map
  refine ⟨(hk F (by simp [fsH])).trans h.box, ⟨n, D, h1, ?_, h3⟩, ?_, h.len, h.fm, h.fr⟩
  · obtain ⟨es, clock, hb, r⟩ := h2
    exact ⟨es, clock, (hk M (by simp [fsH])).trans hb, r⟩
  · refine ⟨h.row.1, ?_⟩
    rcases h.row.2 with h4 | ⟨g, cap, cur, e, h4, h5, h6⟩
    · exact .inl h4
    · exact .inr ⟨g, cap, cur, e, h4, (hk g (by
        unfold fsH
        rw [List.mem_cons, List.mem_cons]
        exact .inr (.inr (own_mem.2 (by rw [e]; rfl))))).trans h5, h6⟩
theorem FS.lt (h : FS w lo F M s l) : ∀ k ∈ fsH F M s, k < w.heap.size := fun k hk => by
  unfold fsH at hk
  rw [List.mem_cons, List.mem_cons] at hk
  rcases hk with rfl | rfl | hk
  · exact (Array.getElem?_eq_some_iff.1 h.box).1
  · obtain ⟨n, D, _, h2, _⟩ := h.map
    exact h2.lt
  · exact (h.row_lt k hk).2
theorem FS.below (h : FS w lo F M s l) (hb : Below w.heap.size w w') : FS w' lo F M s l := h.keep fun k hk => hb.block k (h.lt k hk)
theorem FS.cells (h : FS w lo F M s l) : w.cell? ⟨F, 0, none⟩ = some s.v ∧ w.cell? ⟨F, 1, none⟩ = some (.map (some M)) ∧ w.frozen? ⟨F, 0, none⟩ = false := ⟨by rw [Lib.cell_of_heap h.box]; rfl, by rw [Lib.cell_of_heap h.box]; rfl, frozen_of_row w F 0 _ 78 h.box⟩
end
end Go.Proofs.YtbppdalfcldodaaGreat
