/- A module's game, as data: vertices in the order in which they are found, and where one goes from each. Vertices and rows of them in memory; the map of their numbers; what was found. (*finds).number: the number of a vertex, the next one if it was not found before. slices.Sort at []int, by the library's contract: a row of the call's own is put in order. inStates, owner: the vertices of states; whose a vertex is. The walk of after: the vertices to which an edge leads. (*finds).row: the numbers of vertices, in ascending order. What Build holds while it goes on: what was found, the owners, the rows; how each step leaves it. -/
import Derived.Test.YtbppdalfcldodaaGreatGLaw
import Derived.Test.YtbppdalfcldodaaGreatGSm
import Derived.Test.YtbppdalfcldodaaGreatGNest
import Derived.Maps.OwnOps
import Derived.Maps.OwnSet
import Derived.DeepKeys4
import Derived.Lib.Builder
import Derived.Laws.AppendOwn
import Derived.Deep.AppendLies
import Derived.BigQuiet
import Derived.Deep.RegionHeld3
import Derived.Deep.RegionLaw
import Derived.Shelf.Sort.Plain
import Derived.Shelf.Slices.In.SortNone
import Derived.Sort.OwnSortedInts
import Derived.Test.YtbppdalfcldodaaGreatCDevH
import Derived.Test.YtbppdalfcldodaaGreatCDev
namespace Go.Proofs.YtbppdalfcldodaaGreat
open Go.RowKit Ex
set_option linter.unusedSimpArgs false
set_option linter.unusedVariables false

abbrev Vx := Int × Int × Int
def rootV : Vx := (1, 0, 0)
def startV (p : Int) : Vx := (2, 0, p)
def envV (s : Int) : Vx := (3, s, 0)
def sysV (s p : Int) : Vx := (4, s, p)
def ownV (x : Vx) : Int := if x.1 = 2 ∨ x.1 = 4 then 1 else 0
def succV (m : MT) (x : Vx) : List Vx :=
  if x.1 = 1 then (initEnvL m).map startV
  else if x.1 = 2 then (initSysL m x.2.2).map envV
  else if x.1 = 3 then (envL m x.2.1).map (sysV x.2.1)
  else if x.1 = 4 then (sysL m x.2.1 x.2.2).map envV
  else []
def addV (l : List Vx) (x : Vx) : List Vx := if x ∈ l then l else l ++ [x]
def addL (l xs : List Vx) : List Vx := xs.foldl addV l
def numI (l : List Vx) (x : Vx) : Int := ((l.idxOf x : Nat) : Int)
def sortI (l : List Int) : List Int := l.mergeSort fun x y => decide (x ≤ y)
def goV (m : MT) : Nat → List Vx × List (List Int)
  | 0 => ([rootV], [])
  | k + 1 => match (goV m k).1[k]? with
    | none => goV m k
    | some x => (addL (goV m k).1 (succV m x), (goV m k).2 ++ [sortI ((succV m x).map (numI (addL (goV m k).1 (succV m x))))])
def atL (m : MT) : List Vx := (goV m 700).1
def nextL (m : MT) : List (List Int) := (goV m 700).2
theorem addV_pre (l : List Vx) (x : Vx) : ∃ r, addV l x = l ++ r := by
  unfold addV
  split
  · exact ⟨[], by simp⟩
  · exact ⟨[x], rfl⟩
theorem addV_mem {l : List Vx} {x y : Vx} : y ∈ addV l x ↔ y ∈ l ∨ y = x := by
  unfold addV
  split
  · rename_i h
    constructor
    · exact .inl
    · rintro (h1 | rfl)
      · exact h1
      · exact h
  · simp
theorem addV_nodup {l : List Vx} {x : Vx} (h : l.Nodup) : (addV l x).Nodup := by
  unfold addV
  split
  · exact h
  · rename_i hx
    rw [List.nodup_append]
    refine ⟨h, by simp, fun a ha b hb => ?_⟩
    simp at hb; subst hb
    exact fun e => hx (e ▸ ha)
theorem addL_cons (l : List Vx) (x : Vx) (r : List Vx) : addL l (x :: r) = addL (addV l x) r := rfl
theorem addL_snoc (l r : List Vx) (x : Vx) : addL l (r ++ [x]) = addV (addL l r) x := by
  unfold addL
  rw [List.foldl_append]; rfl
theorem addL_pre : ∀ (xs l : List Vx), ∃ r, addL l xs = l ++ r
  | [], l => ⟨[], by simp [addL]⟩
  | x :: xs, l => by
    obtain ⟨r, h⟩ := addV_pre l x
    obtain ⟨r2, h2⟩ := addL_pre xs (addV l x)
    exact ⟨r ++ r2, by rw [addL_cons, h2, h, List.append_assoc]⟩
theorem addL_mem {y : Vx} : ∀ {xs l : List Vx}, y ∈ addL l xs ↔ y ∈ l ∨ y ∈ xs
  | [], l => by simp [addL]
  | x :: xs, l => by rw [addL_cons, addL_mem, addV_mem, List.mem_cons, or_assoc]
theorem addL_nodup : ∀ {xs l : List Vx}, l.Nodup → (addL l xs).Nodup
  | [], _, h => h
  | x :: xs, l, h => by rw [addL_cons]; exact addL_nodup (addV_nodup h)
theorem numI_pre {l r : List Vx} {x : Vx} (h : x ∈ l) : numI (l ++ r) x = numI l x := by
  unfold numI
  rw [List.idxOf_append, if_pos h]
theorem numI_addV {l : List Vx} {x y : Vx} (h : x ∈ l) : numI (addV l y) x = numI l x := by
  obtain ⟨r, e⟩ := addV_pre l y
  rw [e, numI_pre h]
theorem numI_addL {l xs : List Vx} {x : Vx} (h : x ∈ l) : numI (addL l xs) x = numI l x := by
  obtain ⟨r, e⟩ := addL_pre xs l
  rw [e, numI_pre h]
theorem numI_get {l : List Vx} {x : Vx} (h : x ∈ l) : ∃ k : Nat, numI l x = (k : Int) ∧ k < l.length ∧ l[k]? = some x :=
  ⟨l.idxOf x, rfl, List.idxOf_lt_length_of_mem h, by rw [List.getElem?_eq_getElem (List.idxOf_lt_length_of_mem h), List.getElem_idxOf]⟩
/- what may be a vertex -/
def OkV (T : Int) (x : Vx) : Prop := x = rootV ∨ (∃ p, x = startV p ∧ 0 ≤ p ∧ p < T) ∨ (∃ s, x = envV s ∧ 0 ≤ s ∧ s < T) ∨ ∃ s p, x = sysV s p ∧ 0 ≤ s ∧ s < T ∧ 0 ≤ p ∧ p < T
theorem upTo_bd {f : Int → Bool} : ∀ {k : Nat} {x : Int}, x ∈ upTo f k → 0 ≤ x ∧ x < (k : Int)
  | 0, x, h => by simp [upTo] at h
  | k + 1, x, h => by
    rw [upTo, List.mem_append] at h
    rcases h with h | h
    · have := upTo_bd h; omega
    · split at h
      · simp at h; omega
      · simp at h
theorem initE_bd {m : MT} {p : Int} (h : p ∈ initEnvL m) : 0 ≤ p ∧ p < (totN m : Int) := by
  unfold initEnvL at h
  split at h
  · exact upTo_bd h
  · simp at h
theorem initS_bd {m : MT} {p s : Int} (h : s ∈ initSysL m p) : 0 ≤ s ∧ s < (totN m : Int) := by
  unfold initSysL at h
  split at h
  · exact upTo_bd h
  · simp at h
theorem env_bd {m : MT} {s p : Int} (h : p ∈ envL m s) : 0 ≤ p ∧ p < (totN m : Int) := by
  unfold envL at h
  split at h
  · exact upTo_bd h
  · simp at h
theorem sys_bd {m : MT} {s p z : Int} (h : z ∈ sysL m s p) : 0 ≤ z ∧ z < (totN m : Int) := by
  unfold sysL at h
  split at h
  · exact upTo_bd h
  · simp at h
theorem succ_ok {m : MT} {x y : Vx} (hx : OkV (totN m) x) (h : y ∈ succV m x) : OkV (totN m) y := by
  unfold succV at h
  rcases hx with rfl | ⟨p, rfl, h1, h2⟩ | ⟨s, rfl, h1, h2⟩ | ⟨s, p, rfl, h1, h2, h3, h4⟩
  · simp only [rootV, if_pos, List.mem_map] at h
    obtain ⟨p, hp, rfl⟩ := h
    have := initE_bd hp
    exact .inr (.inl ⟨p, rfl, this.1, this.2⟩)
  · simp [startV, List.mem_map] at h
    obtain ⟨s, hs, rfl⟩ := h
    have := initS_bd hs
    exact .inr (.inr (.inl ⟨s, rfl, this.1, this.2⟩))
  · simp [envV, List.mem_map] at h
    obtain ⟨p, hp, rfl⟩ := h
    have := env_bd hp
    exact .inr (.inr (.inr ⟨s, p, rfl, h1, h2, this.1, this.2⟩))
  · simp [sysV, List.mem_map] at h
    obtain ⟨z, hz, rfl⟩ := h
    have := sys_bd hz
    exact .inr (.inr (.inl ⟨z, rfl, this.1, this.2⟩))
structure GoOk (m : MT) (k : Nat) : Prop where
  nd : (goV m k).1.Nodup
  root : (goV m k).1[0]? = some rootV
  ok : ∀ x ∈ (goV m k).1, OkV (totN m) x
  len : k ≤ (goV m k).1.length → (goV m k).2.length = k
  next : ∀ (j : Nat) x, (goV m k).1[j]? = some x → j < k → (∀ y ∈ succV m x, y ∈ (goV m k).1) ∧ (goV m k).2[j]? = some (sortI ((succV m x).map (numI (goV m k).1)))
  from_ : ∀ (i : Nat) y, (goV m k).1[i]? = some y → 0 < i → ∃ (j : Nat) (x : Vx), j < i ∧ j < k ∧ (goV m k).1[j]? = some x ∧ y ∈ succV m x
theorem add_from {y : Vx} {i : Nat} : ∀ {xs l : List Vx}, (addL l xs)[i]? = some y → l[i]? = some y ∨ l.length ≤ i ∧ y ∈ xs := by
  intro xs l h
  by_cases hi : i < l.length
  · left
    obtain ⟨r, e⟩ := addL_pre xs l
    rw [e, List.getElem?_append_left hi] at h
    exact h
  · right
    refine ⟨by omega, ?_⟩
    revert h
    induction xs generalizing l with
    | nil => intro h; rw [show addL l [] = l from rfl] at h; rw [List.getElem?_eq_none (by omega)] at h; cases h
    | cons x xs ih =>
      intro h
      rw [addL_cons] at h
      by_cases hi2 : i < (addV l x).length
      · unfold addV at h hi2
        by_cases hx : x ∈ l
        · rw [if_pos hx] at hi2; omega
        · rw [if_neg hx] at h hi2
          simp at hi2
          have : i = l.length := by omega
          subst this
          obtain ⟨r, e⟩ := addL_pre xs (l ++ [x])
          rw [e, List.append_assoc, List.getElem?_append_right (Nat.le_refl _)] at h
          simp at h
          simp [h]
      · have := ih hi2 h
        simp [this]
theorem go_ok (m : MT) : ∀ k, GoOk m k
  | 0 => ⟨by simp [goV], rfl, fun x hx => by simp [goV] at hx; exact .inl hx, fun _ => rfl, fun j x _ hj => by omega, fun i y h hi => by
      have := (List.getElem?_eq_some_iff.1 h).1
      simp [goV] at this; omega⟩
  | k + 1 => by
    have ih := go_ok m k
    cases hx : (goV m k).1[k]? with
    | none =>
      have e : goV m (k + 1) = goV m k := by simp only [goV, hx]
      have hl : (goV m k).1.length ≤ k := List.getElem?_eq_none_iff.1 hx
      refine ⟨by rw [e]; exact ih.nd, by rw [e]; exact ih.root, by rw [e]; exact ih.ok, fun h => by rw [e] at h; omega, fun j x hj _ => ?_, fun i y h hi => ?_⟩
      · rw [e] at hj ⊢
        exact ih.next j x hj (by have := (List.getElem?_eq_some_iff.1 hj).1; omega)
      · rw [e] at h ⊢
        obtain ⟨j, x, h1, h2, h3⟩ := ih.from_ i y h hi
        exact ⟨j, x, h1, by omega, h3⟩
    | some x =>
      have e : goV m (k + 1) = (addL (goV m k).1 (succV m x), (goV m k).2 ++ [sortI ((succV m x).map (numI (addL (goV m k).1 (succV m x))))]) := by simp only [goV, hx]
      have hk : k < (goV m k).1.length := (List.getElem?_eq_some_iff.1 hx).1
      have hl := ih.len (by omega)
      obtain ⟨r, er⟩ := addL_pre (succV m x) (goV m k).1
      have hin : ∀ j, j < (goV m k).1.length → (addL (goV m k).1 (succV m x))[j]? = (goV m k).1[j]? := fun j hj => by rw [er, List.getElem?_append_left hj]
      rw [show GoOk m (k + 1) ↔ GoOk m (k + 1) from Iff.rfl]
      refine ⟨by rw [e]; exact addL_nodup ih.nd, by rw [e]; simp only; rw [hin 0 (by omega)]; exact ih.root, ?_, ?_, ?_, ?_⟩
      · rw [e]
        intro y hy
        rcases addL_mem.1 hy with h | h
        · exact ih.ok y h
        · exact succ_ok (ih.ok x (List.mem_of_getElem? hx)) h
      · intro _
        rw [e]; simp [hl]
      · rw [e]
        intro j y hj hjk
        simp only at hj ⊢
        rw [hin j (by omega)] at hj
        by_cases hjk2 : j < k
        · obtain ⟨h1, h2⟩ := ih.next j y hj hjk2
          refine ⟨fun z hz => addL_mem.2 (.inl (h1 z hz)), ?_⟩
          rw [List.getElem?_append_left (by omega), h2]
          congr 2
          refine List.map_congr_left fun z hz => ?_
          rw [numI_addL (h1 z hz)]
        · have : j = k := by omega
          subst this
          rw [hx] at hj
          injection hj with hj; subst hj
          refine ⟨fun z hz => addL_mem.2 (.inr hz), ?_⟩
          rw [List.getElem?_append_right (by omega), hl]
          simp
      · rw [e]
        intro i y h hi
        simp only at h
        rcases add_from h with h1 | ⟨h1, h2⟩
        · obtain ⟨j, z, h3, h4, h5, h6⟩ := ih.from_ i y h1 hi
          refine ⟨j, z, h3, by omega, ?_, h6⟩
          simp only
          rw [hin j (by omega)]; exact h5
        · refine ⟨k, x, by omega, by omega, ?_, h2⟩
          simp only
          rw [hin k hk]; exact hx
/- how many there are -/
def allV (T : Nat) : List Vx := rootV :: ((List.range T).map (fun (p : Nat) => startV (p : Int)) ++ ((List.range T).map (fun (s : Nat) => envV (s : Int)) ++ (List.range (T * T)).map (fun (k : Nat) => sysV ((k / T : Nat) : Int) ((k % T : Nat) : Int))))
theorem allV_len (T : Nat) : (allV T).length = 1 + T + T + T * T := by simp [allV]; omega
theorem mem_allV {T : Nat} {x : Vx} (h : OkV (T : Int) x) : x ∈ allV T := by
  unfold allV
  rw [List.mem_cons, List.mem_append, List.mem_append]
  rcases h with rfl | ⟨p, rfl, h1, h2⟩ | ⟨s, rfl, h1, h2⟩ | ⟨s, p, rfl, h1, h2, h3, h4⟩
  · exact .inl rfl
  · refine .inr (.inl (List.mem_map.2 ⟨p.toNat, List.mem_range.2 (by omega), ?_⟩))
    rw [Int.toNat_of_nonneg h1]
  · refine .inr (.inr (.inl (List.mem_map.2 ⟨s.toNat, List.mem_range.2 (by omega), ?_⟩)))
    rw [Int.toNat_of_nonneg h1]
  · refine .inr (.inr (.inr (List.mem_map.2 ⟨s.toNat * T + p.toNat, List.mem_range.2 ?_, ?_⟩)))
    · have a : s.toNat + 1 ≤ T := by omega
      have b : p.toNat < T := by omega
      have := Nat.mul_le_mul_right T a
      rw [Nat.succ_mul] at this
      omega
    · have b : p.toNat < T := by omega
      have hT : 0 < T := by omega
      rw [Nat.mul_comm, Nat.mul_add_div hT, Nat.div_eq_of_lt b, Nat.mul_add_mod, Nat.mod_eq_of_lt b, Nat.add_zero, Int.toNat_of_nonneg h1, Int.toNat_of_nonneg h3]
theorem nodup_leV : ∀ {a b : List Vx}, a.Nodup → (∀ x ∈ a, x ∈ b) → a.length ≤ b.length
  | [], _, _, _ => Nat.zero_le _
  | x :: r, b, hd, h => by
    rw [List.nodup_cons] at hd
    have hxb := h x (by simp)
    have := nodup_leV (a := r) (b := b.erase x) hd.2 (fun y hy => (List.mem_erase_of_ne (fun e => hd.1 (by rw [← e]; exact hy))).2 (h y (by simp [hy])))
    rw [List.length_erase_of_mem hxb] at this
    have := List.length_pos_of_mem hxb
    simp only [List.length_cons]; omega
theorem len_ok {T : Nat} {l : List Vx} (hT : T ≤ 24) (hd : l.Nodup) (h : ∀ x ∈ l, OkV (T : Int) x) : l.length ≤ 625 := by
  have h1 := nodup_leV hd (fun x hx => mem_allV (h x hx))
  rw [allV_len] at h1
  have h2 : T * T ≤ 24 * 24 := Nat.mul_le_mul hT hT
  omega
theorem go_len {m : MT} (hT : totN m ≤ 24) (k : Nat) : (goV m k).1.length ≤ 625 := len_ok hT (go_ok m k).nd (go_ok m k).ok
theorem go_stop {m : MT} {k : Nat} (h : (goV m k).1.length ≤ k) : ∀ d, goV m (k + d) = goV m k
  | 0 => rfl
  | d + 1 => by
    have ih := go_stop h d
    show goV m (k + d + 1) = _
    have : (goV m (k + d)).1[k + d]? = none := by rw [ih]; exact List.getElem?_eq_none (by omega)
    simp only [goV, this]; exact ih
theorem go_all {m : MT} (hT : totN m ≤ 24) {k : Nat} (h : (goV m k).1.length = k) : goV m k = (atL m, nextL m) := by
  have hk := go_len hT k
  have := go_stop (m := m) (k := k) (by omega) (700 - k)
  rw [show k + (700 - k) = 700 by omega] at this
  show goV m k = ((goV m 700).1, (goV m 700).2)
  rw [this]
end Go.Proofs.YtbppdalfcldodaaGreat
set_option maxRecDepth 100000
namespace Go.Proofs.YtbppdalfcldodaaGreat
open Go.RowKit Ex Go.WideMaps Go.Maps
set_option linter.unusedSimpArgs false
set_option linter.unusedVariables false

def vxC (x : Vx) : List Value := [.int .i64 x.1, .int .i64 x.2.1, .int .i64 x.2.2]
def vxV (x : Vx) : Value := .agg #[.int .i64 x.1, .int .i64 x.2.1, .int .i64 x.2.2]
def vxs (l : List Vx) : List Value := (l.map vxC).flatten
theorem vxs_snoc (l : List Vx) (x : Vx) : vxs l ++ vxC x = vxs (l ++ [x]) := by simp [vxs]
def VxAt (w : World) (B b o : Nat) (x : Vx) : Prop := w.cell? ⟨b, o, none⟩ = some (.int .i64 x.1) ∧ w.cell? ⟨b, o + 1, none⟩ = some (.int .i64 x.2.1) ∧ w.cell? ⟨b, o + 2, none⟩ = some (.int .i64 x.2.2)
def RVx (w : World) (B : Nat) (s : SL) (l : List Vx) : Prop := Rows VxAt 3 w B s l
theorem vx_chunk (l : List Vx) : Chunk 3 (fun ch (a : Vx) => ch = vxC a) (l.map vxC) l :=
  ⟨by simp, fun ch h => by
    obtain ⟨a, _, rfl⟩ := List.mem_map.1 h
    exact ⟨rfl, by simp [vxC, Value.oneCell']⟩, fun k ch a h1 h2 => by
    rw [List.getElem?_map, h2] at h1
    exact (Option.some.inj h1).symm⟩
theorem vx_rows {w : World} {base n c : Nat} {O : Option Addr} {l : List Vx} (h : w.ownsRow base 57 3 (.slice O n c) n (vxs l)) : RVx w w.heap.size ⟨O, n, c⟩ l :=
  own_rows (by omega) h (vx_chunk l) (fun b o ch a _ e hc => by
    subst e
    exact ⟨by have := hc 0 _ rfl; simpa using this, hc 1 _ rfl, hc 2 _ rfl⟩)
section
variable {w w' : World} {B B' : Nat} {s : SL} {l : List Vx}
theorem RVx.below (h : RVx w B s l) (hb : Below B w w') : RVx w' B s l := h.keep fun b o x h1 hx => ⟨(hb.cell (by exact h1)).trans hx.1, (hb.cell (by exact h1)).trans hx.2.1, (hb.cell (by exact h1)).trans hx.2.2⟩
theorem RVx.more (h : RVx w B s l) (hB : B ≤ B') : RVx w B' s l := Rows.more h hB fun _ _ _ hx => hx
theorem RVx.at_ {A : Option Addr} {n c k : Nat} (h : RVx w B ⟨A, n, c⟩ l) (hk : k < n) : ∃ b off p q r, A = some ⟨b, off, none⟩ ∧ b < B ∧ l[k]? = some (p, q, r) ∧ w.cell? ⟨b, off + k * 3, none⟩ = some (.int .i64 p) ∧ w.cell? ⟨b, off + k * 3 + 1, none⟩ = some (.int .i64 q) ∧ w.cell? ⟨b, off + k * 3 + 2, none⟩ = some (.int .i64 r) := by
  obtain ⟨b, off, ⟨p, q, r⟩, h1, h2, h3, h4, h5, h6⟩ := Rows.at_ h hk
  exact ⟨b, off, p, q, r, h1, h2, h3, h4, h5, h6⟩
end

/- the keys -/
def SmI (x : Int) : Prop := 0 ≤ x ∧ x < 4611686018427387904
def SmV (x : Vx) : Prop := SmI x.1 ∧ SmI x.2.1 ∧ SmI x.2.2
theorem SmI.wf {x : Int} (h : SmI x) : (Lit.int .i64 x).wf = true := WalkArith.wf_i64 (by obtain ⟨h1, h2⟩ := h; omega)
theorem okV_sm {T : Nat} {x : Vx} (hT : T ≤ 4096) (h : OkV (T : Int) x) : SmV x := by
  rcases h with rfl | ⟨p, rfl, h1, h2⟩ | ⟨s, rfl, h1, h2⟩ | ⟨s, p, rfl, h1, h2, h3, h4⟩
  · exact ⟨⟨by decide, by decide⟩, ⟨by decide, by decide⟩, ⟨by decide, by decide⟩⟩
  · exact ⟨⟨by show (0 : Int) ≤ 2; omega, by show (2 : Int) < _; omega⟩, ⟨by show (0 : Int) ≤ 0; omega, by show (0 : Int) < _; omega⟩, ⟨h1, by show p < _; omega⟩⟩
  · exact ⟨⟨by show (0 : Int) ≤ 3; omega, by show (3 : Int) < _; omega⟩, ⟨h1, by show s < _; omega⟩, ⟨by show (0 : Int) ≤ 0; omega, by show (0 : Int) < _; omega⟩⟩
  · exact ⟨⟨by show (0 : Int) ≤ 4; omega, by show (4 : Int) < _; omega⟩, ⟨h1, by show s < _; omega⟩, ⟨h3, by show p < _; omega⟩⟩
theorem laidOutA : laidOutB Tryz.prog = true := by kernel_rfl
theorem rowVx : (57 : TypeId) < Tryz.prog.types.size := of_decide_eq_true (by kernel_rfl)
theorem wideVx : (match Tryz.prog.underlying 57 with | some (.array _ _) | some (.struct _) => true | _ => false) = true := by kernel_rfl
theorem lawVx : Keyed Tryz.prog 57 := Keyed.of_law (deep_law_laid laidOutA (m := 2) (by omega) rowVx (by kernel_rfl) wideVx)
def keyL (x : Vx) : Lit := .string (keyBytes [.int .i64 x.1, .int .i64 x.2.1, .int .i64 x.2.2])
theorem typesN : Tryz.prog.types.size = 198 := by kernel_rfl
theorem cells57 : Tryz.prog.cellsOf 57 = 3 := by kernel_rfl
theorem cells3 : Tryz.prog.cellsOf 3 = 1 := by kernel_rfl
theorem keyType57 : Tryz.prog.keyType 57 = true := by kernel_rfl
theorem lits3 (d : Nat) {x : Int} (h : SmI x) : Tryz.prog.keyLits (d + 1) 3 [.int .i64 x] = some [.int .i64 x] := by
  unfold Program.keyLits
  simp [Tryz.underlying3, h.wf]
theorem key_of {x : Vx} (h : SmV x) : keyOf Tryz.prog 57 (vxV x) = some (keyL x) := by
  obtain ⟨a, b, c⟩ := x
  obtain ⟨h1, h2, h3⟩ := h
  simp only at h1 h2 h3
  have hl : Tryz.prog.keyLits (198 + 1) 57 [.int .i64 a, .int .i64 b, .int .i64 c] = some [.int .i64 a, .int .i64 b, .int .i64 c] := by
    unfold Program.keyLits
    simp [Tryz.underlying57, cells57, cells3, lits3 197 h1, lits3 197 h2, lits3 197 h3]
  unfold keyOf
  rw [typesN]
  simp only [Nat.reduceAdd] at hl
  simp [Tryz.underlying57, keyType57, vxV, Value.formed, cells57, Value.cells, hl, keyL]
theorem vxV_inj {x y : Vx} (h : vxV x = vxV y) : x = y := by
  obtain ⟨a, b, c⟩ := x
  obtain ⟨d, e, f⟩ := y
  simp [vxV] at h
  obtain ⟨rfl, rfl, rfl⟩ := h; rfl
theorem keyL_inj {x y : Vx} (hx : SmV x) (hy : SmV y) (h : keyL x = keyL y) : x = y := vxV_inj (lawVx.inj (key_of hx) (by rw [h]; exact key_of hy))
theorem key_is {x : Vx} (hx : SmV x) : WideAt.IsKeyLit (keyL x) := lawVx.key (key_of hx)
/- a map of the numbers of what is on a list -/
def NumIs (D : DataW Unit) (l : List Vx) : Prop := ∀ x : Vx, SmV x → Maps.has D (keyL x) = decide (x ∈ l) ∧ (x ∈ l → D.atKey (keyL x) (.lit (.int .i64 0)) = .lit (.int .i64 (numI l x)))
theorem NumIs.start : NumIs (.map []) [] := fun x _ => ⟨by simp [Maps.has], fun h => by cases h⟩
theorem numI_new {l : List Vx} {x : Vx} (h : x ∉ l) : numI (l ++ [x]) x = (l.length : Int) := by
  unfold numI
  rw [List.idxOf_append, if_neg h]
  simp
theorem NumIs.put {D : DataW Unit} {l : List Vx} {x : Vx} (h : NumIs D l) (hD : IsMap D) (hx : SmV x) (hn : x ∉ l) : NumIs (D.put (keyL x) (.lit (.int .i64 (l.length : Int)))) (l ++ [x]) := fun y hy => by
  by_cases e : y = x
  · subst e
    exact ⟨by rw [has_put_same hD (key_is hx)]; simp, fun _ => by rw [atKey_put_same hD (key_is hx), numI_new hn]⟩
  · have hk : keyL y ≠ keyL x := fun hh => e (keyL_inj hy hx hh)
    obtain ⟨h1, h2⟩ := h y hy
    refine ⟨by rw [has_put_other hk, h1]; simp [e], fun hm => ?_⟩
    have hm2 : y ∈ l := by
      rcases List.mem_append.1 hm with hm | hm
      · exact hm
      · simp at hm; exact absurd hm e
    rw [atKey_put_other hk, h2 hm2, numI_pre hm2]
/- what a step leaves: all but some blocks; what these are afterwards -/
structure Fr (H H' : List Nat) (w w' : World) : Prop where
  os : w'.os = w.os
  tape : w'.tape = w.tape
  output : w'.output = w.output
  size : w.heap.size ≤ w'.heap.size
  block : ∀ k, k < w.heap.size → k ∉ H → w'.heap[k]? = w.heap[k]?
  new : ∀ k ∈ H', k ∈ H ∨ w.heap.size ≤ k
section
variable {H H' H'' : List Nat} {u v w : World}
theorem Fr.refl (H : List Nat) (w : World) : Fr H H w w := ⟨rfl, rfl, rfl, Nat.le_refl _, fun _ _ _ => rfl, fun _ h => .inl h⟩
theorem Fr.trans (h : Fr H H' u v) (k : Fr H' H'' v w) : Fr H H'' u w :=
  ⟨k.os.trans h.os, k.tape.trans h.tape, k.output.trans h.output, Nat.le_trans h.size k.size, fun i hi hn => (k.block i (Nat.lt_of_lt_of_le hi h.size) (fun hm => by
    rcases h.new i hm with h1 | h1
    · exact hn h1
    · omega)).trans (h.block i hi hn), fun i hm => by
    rcases k.new i hm with h1 | h1
    · exact h.new i h1
    · exact .inr (Nat.le_trans h.size h1)⟩
theorem Fr.of_below (hb : Below u.heap.size u v) : Fr H H u v := ⟨hb.os, hb.tape, hb.output, hb.size, fun k hk _ => hb.block k hk, fun _ h => .inl h⟩
theorem Fr.low {B : Nat} (h : Fr H H' u w) (hB : ∀ k ∈ H, B ≤ k) (hz : B ≤ u.heap.size) : Below B u w := ⟨h.os, h.tape, h.output, h.size, fun k hk => h.block k (by omega) (fun hm => by have := hB k hm; omega)⟩
theorem Fr.heap {k : Nat} {o : Obj} (h : Fr H H' u w) (hk : u.heap[k]? = some o) (hb : k ∉ H) : w.heap[k]? = some o := (h.block k (Array.getElem?_eq_some_iff.1 hk).1 hb).trans hk
theorem Fr.of_grown {b : Nat} (hg : u.grownBy v (some b)) (hb : b ∈ H) : Fr H H u v := ⟨hg.os, hg.tape, hg.output, hg.size, fun k hk hn => hg.block k hk (fun e => hn (by injection e with e; rw [e]; exact hb)), fun _ h => .inl h⟩
end
/- what was found: its box, its map, its row -/
def SL.own (s : SL) : List Nat := s.A.toList.map Addr.block
structure FS (w : World) (lo F M : Nat) (s : SL) (l : List Vx) : Prop where
  box : w.heap[F]? = some (.cells #[s.v, .map (some M)] 78 (0, 0))
  map : ∃ n D, n ≤ l.length ∧ w.ownsMap Tryz.prog 57 (plainElem (H := Unit) Tryz.prog 3) M n D ∧ NumIs D l
  row : w.ownsRow lo 57 3 s.v s.n (vxs l)
  len : s.n = l.length
  fm : F ≠ M
  fr : ∀ k ∈ s.own, k ≠ F ∧ k ≠ M
def fsH (F M : Nat) (s : SL) : List Nat := F :: M :: s.own
section
variable {w w' : World} {lo F M : Nat} {s s' : SL} {l : List Vx}
theorem own_mem {s : SL} {k : Nat} : k ∈ s.own ↔ s.v.ownBlock = some k := by
  obtain ⟨A, n, c⟩ := s
  cases A <;> simp [SL.own, SL.v, Value.ownBlock, eq_comm]
theorem FS.row_lt (h : FS w lo F M s l) : ∀ k ∈ s.own, lo ≤ k ∧ k < w.heap.size := fun k hk => h.row.lt k (own_mem.1 hk)
theorem FS.keep (h : FS w lo F M s l) (hk : ∀ k ∈ fsH F M s, w'.heap[k]? = w.heap[k]?) : FS w' lo F M s l := by
  obtain ⟨n, D, h1, h2, h3⟩ := h.map
  refine ⟨(hk F (by simp [fsH])).trans h.box, ⟨n, D, h1, ?_, h3⟩, ?_, h.len, h.fm, h.fr⟩
  · obtain ⟨es, clock, hb, r⟩ := h2
    exact ⟨es, clock, (hk M (by simp [fsH])).trans hb, r⟩
  · refine ⟨h.row.1, ?_⟩
    rcases h.row.2 with h4 | ⟨g, cap, cur, e, h4, h5, h6⟩
    · exact .inl h4
    · exact .inr ⟨g, cap, cur, e, h4, (hk g (by
        unfold fsH
        rw [List.mem_cons, List.mem_cons]
        exact .inr (.inr (own_mem.2 (by rw [e]; rfl))))).trans h5, h6⟩
theorem FS.lt (h : FS w lo F M s l) : ∀ k ∈ fsH F M s, k < w.heap.size := fun k hk => by
  unfold fsH at hk
  rw [List.mem_cons, List.mem_cons] at hk
  rcases hk with rfl | rfl | hk
  · exact (Array.getElem?_eq_some_iff.1 h.box).1
  · obtain ⟨n, D, _, h2, _⟩ := h.map
    exact h2.lt
  · exact (h.row_lt k hk).2
theorem FS.below (h : FS w lo F M s l) (hb : Below w.heap.size w w') : FS w' lo F M s l := h.keep fun k hk => hb.block k (h.lt k hk)
theorem FS.cells (h : FS w lo F M s l) : w.cell? ⟨F, 0, none⟩ = some s.v ∧ w.cell? ⟨F, 1, none⟩ = some (.map (some M)) ∧ w.frozen? ⟨F, 0, none⟩ = false := ⟨by rw [Lib.cell_of_heap h.box]; rfl, by rw [Lib.cell_of_heap h.box]; rfl, frozen_of_row w F 0 _ 78 h.box⟩
end
end Go.Proofs.YtbppdalfcldodaaGreat
set_option maxRecDepth 100000
namespace Go.Proofs.YtbppdalfcldodaaGreat
open Go.RowKit Ex Go.WideMaps Go.Maps
set_option linter.unusedSimpArgs false
set_option linter.unusedVariables false

def NumPost (w : World) (lo F M : Nat) (s : SL) (l : List Vx) (x : Vx) (e : Ending) (w' : World) : Prop :=
  e = .returned (.int .i64 (numI (addV l x) x)) ∧ ∃ s' : SL, FS w' lo F M s' (addV l x) ∧ Fr (fsH F M s) (fsH F M s') w w'
theorem info57 : ∃ i, Tryz.prog.info? 57 = some i ∧ i.zero = some (.agg #[.int .i64 0, .int .i64 0, .int .i64 0]) ∧ i.size = 3 ∧ i.bytes = 24 := by
  have h : (Tryz.prog.info? 57).map (fun i => (i.zero, i.size, i.bytes)) = some (some (.agg #[.int .i64 0, .int .i64 0, .int .i64 0]), 3, 24) := by kernel_rfl
  cases hi : Tryz.prog.info? 57 with
  | none => rw [hi] at h; cases h
  | some i =>
    rw [hi] at h
    simp only [Option.map_some, Option.some.injEq, Prod.mk.injEq] at h
    exact ⟨i, rfl, h.1, h.2.1, h.2.2⟩
theorem below_drew {B : Nat} {u w : World} (h : Below B u w) : Below B u w.drew := ⟨h.os, h.tape, h.output, h.size, h.block⟩
theorem zero3A (w : World) : (zeroValue 3).run Tryz.prog w = .ok (.int .i64 0) w := by kernel_rfl
theorem box57 (w : World) (a b c : Int) (t : TypeId) : (w.alloc (.cells #[.int .i64 a, .int .i64 b, .int .i64 c] t)).cell? ⟨w.heap.size, 0, none⟩ = some (.int .i64 a) ∧ (w.alloc (.cells #[.int .i64 a, .int .i64 b, .int .i64 c] t)).cell? ⟨w.heap.size, 1, none⟩ = some (.int .i64 b) ∧ (w.alloc (.cells #[.int .i64 a, .int .i64 b, .int .i64 c] t)).cell? ⟨w.heap.size, 2, none⟩ = some (.int .i64 c) := by
  simp [go_sem]
set_option maxHeartbeats 2000000 in
theorem number_old (lo F M : Nat) (s : SL) (l : List Vx) (x : Vx) (w : World) (h : FS w lo F M s l) (hx : SmV x) (hm : x ∈ l) :
    Calls Tryz.prog 39 #[.pointer (some ⟨F, 0, none⟩), vxV x] w (NumPost w lo F M s l x) := by
  have hadd : addV l x = l := by unfold addV; rw [if_pos hm]
  have Hend : Hid (∀ w', Below w.heap.size w w' → NumPost w lo F M s l x (.returned (.int .i64 (numI l x))) w') := hide fun w' hb => by
    unfold NumPost; rw [hadd]
    exact ⟨rfl, s, h.below hb, Fr.of_below hb⟩
  obtain ⟨n, D, hn, hown, hnum⟩ := h.map
  obtain ⟨hhas, hat⟩ := hnum x hx
  have hat := hat hm
  rw [decide_eq_true hm] at hhas
  have hkey := key_of hx
  have hFl := (h.lt F (by simp [fsH]))
  generalize hv : numI l x = v at *
  obtain ⟨a, b, c⟩ := x
  have Hpost : Hid (NumPost w lo F M s l (a, b, c) = NumPost w lo F M s l (a, b, c)) := hide rfl
  have hb1 : Below w.heap.size w (w.alloc (.cells #[.int .i64 a, .int .i64 b, .int .i64 c] 57)) := (Below.refl _ _).alloc (Nat.le_refl _) _
  have Hb1 := hide hb1
  have hown1 := (hown.alloc (.cells #[.int .i64 a, .int .i64 b, .int .i64 c] 57)).drew
  obtain ⟨vv, ps, hrun, hvv⟩ := hown1.look_ok lawVx Tryz.underlying55 (zero3A _) (plainElem_int Tryz.underlying3 (by decide)) hkey
  rw [hhas] at hrun
  rw [hat] at hvv
  obtain ⟨v2, rfl, hv2, _⟩ := plainElem_int_inv Tryz.underlying3 hvv
  simp only [Prod.mk.injEq, DataW.lit.injEq, Lit.int.injEq, true_and] at hv2
  obtain ⟨rfl, _⟩ := hv2
  obtain ⟨c0, c1, f0⟩ := (h.below hb1).cells
  obtain ⟨d0, d1, d2⟩ := box57 w a b c 57
  simp only [vxV] at *
  clear hown hown1 hhas hat hkey hnum hn hm hx hadd h
  go_enter Tryz.func39, Tryz.ntmps39
  go_wp2_with fail
  go_region
  go_wp2_with fail
  go_ret
  exact Hend.out _ (below_drew Hb1.out)
theorem num_fin {w w4 w6 : World} {lo F M n gg cap : Nat} {s : SL} {l : List Vx} {x : Vx} {D : DataW Unit} {o : Obj} (h : FS w lo F M s l) (hf : Fr [M] [M] w w4) (hown : w4.ownsMap Tryz.prog 57 (plainElem (H := Unit) Tryz.prog 3) M (n + 1) D) (hn : n ≤ l.length) (hD : NumIs D (l ++ [x]))
    (hgrow : (w4.alloc o).drew.grownBy w6 s.v.ownBlock) (hat : s.v.ownBlock = some gg ∨ gg = w4.heap.size + 1) (hrow : w6.ownsRow lo 57 3 (.slice (some ⟨gg, 0, none⟩) (s.n + 1) cap) (s.n + 1) (vxs (l ++ [x]))) :
    FS (w6.setCell ⟨F, 0, none⟩ (.slice (some ⟨gg, 0, none⟩) (s.n + 1) cap)) lo F M ⟨some ⟨gg, 0, none⟩, s.n + 1, cap⟩ (l ++ [x]) ∧ Fr (fsH F M s) (fsH F M ⟨some ⟨gg, 0, none⟩, s.n + 1, cap⟩) w (w6.setCell ⟨F, 0, none⟩ (.slice (some ⟨gg, 0, none⟩) (s.n + 1) cap)) := by
  have hz := hf.size
  have hza : (w4.alloc o).drew.heap.size = w4.heap.size + 1 := by simp
  have hzg := hgrow.size
  have hF := h.lt F (by simp [fsH])
  have hM := h.lt M (by simp [fsH])
  have same : ∀ k, k < w4.heap.size → k ∉ s.own → w6.heap[k]? = w4.heap[k]? := fun k hk hne => by
    rw [hgrow.block k (by omega) (fun e => hne (own_mem.2 e.symm))]
    exact Below.heap_alloc w4 _ _ hk
  have hgF : gg ≠ F := by
    rcases hat with h1 | h1
    · exact (h.fr gg (own_mem.2 h1)).1
    · omega
  have hgM : gg ≠ M := by
    rcases hat with h1 | h1
    · exact (h.fr gg (own_mem.2 h1)).2
    · omega
  have hFo : F ∉ s.own := fun hm => (h.fr F hm).1 rfl
  have hMo : M ∉ s.own := fun hm => (h.fr M hm).2 rfl
  have hb4 : w4.heap[F]? = some (.cells #[s.v, .map (some M)] 78 (0, 0)) := hf.heap h.box (by simp; exact h.fm)
  have hb6 : w6.heap[F]? = some (.cells #[s.v, .map (some M)] 78 (0, 0)) := (same F (by omega) hFo).trans hb4
  refine ⟨⟨by rw [heap_setCell_same w6 F 0 _ 78 _ hb6]; rfl, ⟨n + 1, D, by simp; omega, ?_, hD⟩, ?_, by simp [h.len], h.fm, fun k hk => ?_⟩, hgrow.os.trans hf.os, hgrow.tape.trans hf.tape, hgrow.output.trans hf.output, by simp [World.setCell]; omega, fun k hk hn => ?_, fun k hk => ?_⟩
  · have h1 : w6.ownsMap Tryz.prog 57 (plainElem (H := Unit) Tryz.prog 3) M (n + 1) D := by
      obtain ⟨es, clock, hb, r⟩ := hown
      exact ⟨es, clock, (same M (by omega) hMo).trans hb, r⟩
    exact h1.setCell (fun e => h.fm e.symm) _
  · refine ⟨hrow.1, ?_⟩
    rcases hrow.2 with ⟨e, _⟩ | ⟨g, c2, cur, e, h4, h5, h6⟩
    · cases e
    · refine .inr ⟨g, c2, cur, e, h4, ?_, h6⟩
      injection e with e _ _
      injection e with e
      injection e with e
      subst e
      rw [Below.heap_setCell _ _ _ _ hgF]; exact h5
  · simp [SL.own] at hk; subst hk; exact ⟨hgF, hgM⟩
  · have h1 : k ≠ F ∧ k ≠ M ∧ k ∉ s.own := by simpa [fsH, not_or] using hn
    rw [Below.heap_setCell _ _ _ _ h1.1, same k (by omega) h1.2.2]
    exact hf.block k hk (by simp; exact h1.2.1)
  · unfold fsH at hk ⊢
    rw [List.mem_cons, List.mem_cons] at hk
    rcases hk with rfl | rfl | hk
    · exact .inl (by simp)
    · exact .inl (by simp)
    · simp [SL.own] at hk; subst hk
      rcases hat with h1 | h1
      · exact .inl (by rw [List.mem_cons, List.mem_cons]; exact .inr (.inr (own_mem.2 h1)))
      · exact .inr (by omega)
set_option maxHeartbeats 4000000 in
theorem number_new (lo F M : Nat) (s : SL) (l : List Vx) (x : Vx) (w : World) (h : FS w lo F M s l) (hx : SmV x) (hm : x ∉ l) (hl : l.length ≤ 4000) (hlo : lo ≤ w.heap.size) :
    Calls Tryz.prog 39 #[.pointer (some ⟨F, 0, none⟩), vxV x] w (NumPost w lo F M s l x) := by
  have hadd : addV l x = l ++ [x] := by unfold addV; rw [if_neg hm]
  have Hfs := hide h
  have Hm := hide hm
  have Hx := hide hx
  have hk := h.len
  obtain ⟨n, D, hn, hown, hnum⟩ := h.map
  have Hnum := hide (hnum.put hown.isMap hx hm)
  obtain ⟨hhas, _⟩ := hnum x hx
  rw [decide_eq_false hm] at hhas
  have hkey := key_of hx
  have Hkey := hide hkey
  have hFl := (h.lt F (by simp [fsH]))
  have hMl := (h.lt M (by simp [fsH]))
  have Hv : Hid (numI (addV l x) x = (s.n : Int)) := hide (by rw [hadd, numI_new hm, hk])
  have Hadd := hide hadd
  rw [← hk] at Hnum
  have Hk := hide hk
  obtain ⟨a, b, c⟩ := x
  obtain ⟨A, k, cap0⟩ := s
  simp only at hk Hv Hnum Hk
  have hkl : k ≤ 4000 := by omega
  have hnk : n ≤ k := by omega
  have Hnl := hide hn
  have hb1 : Below w.heap.size w (w.alloc (.cells #[.int .i64 a, .int .i64 b, .int .i64 c] 57)) := (Below.refl _ _).alloc (Nat.le_refl _) _
  have Hb1 := hide hb1
  have hown1 := (hown.alloc (.cells #[.int .i64 a, .int .i64 b, .int .i64 c] 57)).drew
  obtain ⟨vv, ps, hrun, hvv⟩ := hown1.look_ok lawVx Tryz.underlying55 (zero3A _) (plainElem_int Tryz.underlying3 (by decide)) hkey
  rw [hhas] at hrun
  obtain ⟨v2, rfl, _, _⟩ := plainElem_int_inv Tryz.underlying3 hvv
  obtain ⟨w4, hrun4, hown4, hgr4⟩ := hown1.drew.update lawVx Tryz.underlying55 (by unfold maxLen; omega) hkey (plainElem_int (a := (k : Int)) Tryz.underlying3 (WalkArith.wf_i64 (by omega)))
  have Hf4 : Hid (Fr [M] [M] w w4) := hide ((Fr.of_below (below_drew (below_drew hb1))).trans (Fr.of_grown (b := M) hgr4 (by simp)))
  have hz4 : w.heap.size + 1 ≤ w4.heap.size := by have := hgr4.size; simpa using this
  have Hown4 := hide hown4
  have Hc4 := hide (FS.cells (w := w4) (lo := lo) (F := F) (M := M) (s := ⟨A, k, cap0⟩) (l := l))
  have hbF4 : w4.heap[F]? = some (.cells #[(SL.mk A k cap0).v, .map (some M)] 78 (0, 0)) := Hf4.out.heap h.box (by simp; exact h.fm)
  have hbX4 : w4.heap[w.heap.size]? = some (.cells #[.int .i64 a, .int .i64 b, .int .i64 c] 57 (0, 0)) := by
    rw [hgr4.block w.heap.size (by simp) (fun e => by injection e with e; omega)]
    exact heap_alloc_new w _
  have hrow4 : w4.ownsRow lo 57 3 (.slice A k cap0) k (vxs l) := by
    have hr := h.row
    refine ⟨hr.1, ?_⟩
    rcases hr.2 with h4 | ⟨g, c2, cur, e, h4, h5, h6⟩
    · exact .inl h4
    · refine .inr ⟨g, c2, cur, e, h4, Hf4.out.heap h5 ?_, h6⟩
      simp
      exact (h.fr g (own_mem.2 (by rw [e]; rfl))).2
  have Hrow4 := hide hrow4
  have Hob : Hid (∀ j, (Value.slice A k cap0).ownBlock = some j → lo ≤ j ∧ j < w.heap.size ∧ j ≠ F) := hide (fun j hj => ⟨(h.row_lt j (own_mem.2 hj)).1, (h.row_lt j (own_mem.2 hj)).2, (h.fr j (own_mem.2 hj)).1⟩)
  obtain ⟨c0, c1, f0⟩ := (h.below hb1).cells
  obtain ⟨d0, d1, d2⟩ := box57 w a b c 57
  have e0 : w4.cell? ⟨F, 0, none⟩ = some (.slice A k cap0) := by rw [Lib.cell_of_heap hbF4]; rfl
  have e1 : w4.frozen? ⟨F, 0, none⟩ = false := frozen_of_row w4 F 0 _ 78 hbF4
  have g0 : w4.cell? ⟨w.heap.size, 0, none⟩ = some (.int .i64 a) := by rw [Lib.cell_of_heap hbX4]; rfl
  have g1 : w4.cell? ⟨w.heap.size, 1, none⟩ = some (.int .i64 b) := by rw [Lib.cell_of_heap hbX4]; rfl
  have g2 : w4.cell? ⟨w.heap.size, 2, none⟩ = some (.int .i64 c) := by rw [Lib.cell_of_heap hbX4]; rfl
  have Hrow4b : Hid ((w4.alloc (.cells #[.int .i64 a, .int .i64 b, .int .i64 c] 57)).ownsRow lo 57 3 (.slice A k cap0) k (vxs l)) := hide (hrow4.kept (World.grownBy_alloc w4 _ none) (by cases A <;> simp [Value.ownBlock]))
  have Hrow4a : Hid ((w4.alloc (.cells #[.int .i64 a, .int .i64 b, .int .i64 c] 57)).drew.ownsRow lo 57 3 (.slice A k cap0) k (vxs l)) := hide Hrow4b.out
  have k3 : ∀ o : Obj, (w4.alloc o).cell? ⟨F, 0, none⟩ = some (.slice A k cap0) := fun o => (World.cell?_alloc_lt _ _ _ (show F < w4.heap.size by omega)).trans e0
  obtain ⟨i0, hi0, hz0, hz1, hz2⟩ := info57
  have Hi0 := hide hi0; have Hz0 := hide hz0; have Hz1 := hide hz1; have Hz2 := hide hz2
  have hMs : M ≠ w.heap.size := by omega
  simp only [vxV, SL.v] at *
  clear hown hown1 hhas hkey hnum hn hm hx hadd h hvv hown4 hgr4 hrow4 hb1 hbF4 hbX4 hi0 hz0 hz1 hz2 hk Hc4
  go_enter Tryz.func39, Tryz.ntmps39
  go_wp2_with fail
  go_region
  go_wp2_with fail
  go_region
  clear hrun hrun4 c0 c1 f0 d0 d1 d2
  go_wp2_with fail
  go_region_law (first
    | (refine step_append_lies _ (by rfl) _ _ _ (by rfl) lo 57 i0 _ 3 24 Tryz.underlying36 Hi0.out Hz0.out Hz1.out Hz2.out rfl (by omega) (.slice A k cap0) k (vxs l) (by rfl) (by first | exact Hrow4a.out | exact Hrow4b.out)
        ⟨w4.heap.size, 0, none⟩ 1 1 [.int .i64 a, .int .i64 b, .int .i64 c] (by rfl) (by rfl) (World.news_of_block (cs := #[.int .i64 a, .int .i64 b, .int .i64 c]) (t := 57) (fr := (0, 0)) (heap_alloc_new w4 _)) (by simp [Value.oneCell'])
        (by omega) (by unfold maxLen; omega) (by omega) (by simp; omega) (w4.heap.size + 1) (by simp) ?_; intro gg cap w6 hown6 hgrow hat hlt6; have c6 : w6.cell? ⟨F, 0, none⟩ = some (.slice A k cap0) := (World.grownBy.cell_far hgrow ⟨F, 0, none⟩ (by simp; omega) (fun e => (Hob.out F e.symm).2.2 rfl)).trans ((World.cell?_alloc_lt _ _ _ (show F < w4.heap.size by omega)).trans e0); have z6 : w6.frozen? ⟨F, 0, none⟩ = false := (World.grownBy.frozen_far hgrow ⟨F, 0, none⟩ (by simp; omega) (fun e => (Hob.out F e.symm).2.2 rfl)).trans ((World.frozen?_of_block (a := ⟨F, 0, none⟩) (Below.heap_alloc w4 _ _ (show F < w4.heap.size by omega))).trans e1); have Hgrow := hide hgrow; have Hat := hide hat; have Hown6 := hide hown6; clear hgrow hat hown6))
  all_goals
    obtain ⟨hA, hB⟩ := num_fin (w4 := w4) (x := (a, b, c)) Hfs.out Hf4.out Hown4.out Hnl.out Hnum.out Hgrow.out Hat.out (by rw [← vxs_snoc]; exact Hown6.out)
    have HA := hide hA; have HB := hide hB
    clear hA hB
    go_wp2_with fail
    go_ret
    refine ⟨by rw [Hv.out]; rfl, ⟨some ⟨gg, 0, none⟩, k + 1, cap⟩, ?_, HB.out⟩
    rw [Hadd.out]; exact HA.out
theorem number_any (lo F M : Nat) (s : SL) (l : List Vx) (x : Vx) (w : World) (h : FS w lo F M s l) (hx : SmV x) (hl : l.length ≤ 4000) (hlo : lo ≤ w.heap.size) :
    Calls Tryz.prog 39 #[.pointer (some ⟨F, 0, none⟩), vxV x] w (NumPost w lo F M s l x) := by
  by_cases hm : x ∈ l
  · have := number_old lo F M s l x w h hx hm
    exact this
  · exact number_new lo F M s l x w h hx hm hl hlo
end Go.Proofs.YtbppdalfcldodaaGreat
namespace Go.Proofs.YtbppdalfcldodaaGreat
open Go.Shelf
set_option linter.unusedSimpArgs false
set_option linter.unusedVariables false
def sortRen : Go.Shelf.Ren := ⟨fun | 189 => 80 | 125 => 107 | 257 => 106 | 128 => 138 | 129 => 139 | 294 => 129 | 295 => 130 | 296 => 131 | 297 => 132 | 298 => 133 | 299 => 134 | 216 => 135 | 300 => 136 | 301 => 137 | 328 => 150 | 329 => 151 | 330 => 152 | 331 => 153 | 332 => 154 | 215 => 155 | 343 => 159 | n => n, fun | 28 => 32 | 3 => 3 | 46 => 143 | 0 => 0 | 51 => 167 | 53 => 60 | 4 => 4 | 183 => 161 | 182 => 160 | 131 => 119 | 5 => 5 | 9 => 9 | 218 => 173 | 222 => 177 | 228 => 179 | 229 => 180 | n => n, fun | n => n⟩
theorem sortLays : Go.Proofs.Lays.n189 Tryz.prog sortRen := {
  mixed := by kernel_rfl
  f125 := Tryz.func107.trans (congrArg some (by kernel_rfl))
  f128 := Tryz.func138.trans (congrArg some (by kernel_rfl))
  f129 := Tryz.func139.trans (congrArg some (by kernel_rfl))
  f189 := Tryz.func80.trans (congrArg some (by kernel_rfl))
  f215 := Tryz.func155.trans (congrArg some (by kernel_rfl))
  f216 := Tryz.func135.trans (congrArg some (by kernel_rfl))
  f257 := Tryz.func106.trans (congrArg some (by kernel_rfl))
  f294 := Tryz.func129.trans (congrArg some (by kernel_rfl))
  f295 := Tryz.func130.trans (congrArg some (by kernel_rfl))
  f296 := Tryz.func131.trans (congrArg some (by kernel_rfl))
  f297 := Tryz.func132.trans (congrArg some (by kernel_rfl))
  f298 := Tryz.func133.trans (congrArg some (by kernel_rfl))
  f299 := Tryz.func134.trans (congrArg some (by kernel_rfl))
  f300 := Tryz.func136.trans (congrArg some (by kernel_rfl))
  f301 := Tryz.func137.trans (congrArg some (by kernel_rfl))
  f328 := Tryz.func150.trans (congrArg some (by kernel_rfl))
  f329 := Tryz.func151.trans (congrArg some (by kernel_rfl))
  f330 := Tryz.func152.trans (congrArg some (by kernel_rfl))
  f331 := Tryz.func153.trans (congrArg some (by kernel_rfl))
  f332 := Tryz.func154.trans (congrArg some (by kernel_rfl))
  f343 := Tryz.func159.trans (congrArg some (by kernel_rfl))
  t0 := Tryz.underlying0
  a0 := Tryz.isAgg0
  z0 := Tryz.sizeOf0
  v0 := Tryz.zeroValue0
  t3 := Tryz.underlying3
  a3 := Tryz.isAgg3
  z3 := Tryz.sizeOf3
  v3 := Tryz.zeroValue3
  t4 := Tryz.underlying4
  a4 := Tryz.isAgg4
  z4 := Tryz.sizeOf4
  v4 := Tryz.zeroValue4
  t5 := Tryz.underlying5
  a5 := Tryz.isAgg5
  z5 := Tryz.sizeOf5
  v5 := Tryz.zeroValue5
  t9 := Tryz.underlying9
  a9 := Tryz.isAgg9
  z9 := Tryz.sizeOf9
  v9 := Tryz.zeroValue9
  t28 := Tryz.underlying32
  a28 := Tryz.isAgg32
  z28 := Tryz.sizeOf32
  v28 := Tryz.zeroValue32
  t46 := Tryz.underlying143
  a46 := Tryz.isAgg143
  z46 := Tryz.sizeOf143
  v46 := Tryz.zeroValue143
  t51 := Tryz.underlying167
  a51 := Tryz.isAgg167
  z51 := Tryz.sizeOf167
  v51 := Tryz.zeroValue167
  t53 := Tryz.underlying60
  a53 := Tryz.isAgg60
  z53 := Tryz.sizeOf60
  v53 := Tryz.zeroValue60
  t131 := Tryz.underlying119
  a131 := Tryz.isAgg119
  z131 := Tryz.sizeOf119
  v131 := Tryz.zeroValue119
  t182 := Tryz.underlying160
  a182 := Tryz.isAgg160
  z182 := Tryz.sizeOf160
  v182 := Tryz.zeroValue160
  t183 := Tryz.underlying161
  a183 := Tryz.isAgg161
  z183 := Tryz.sizeOf161
  v183 := Tryz.zeroValue161
  t218 := Tryz.underlying173
  a218 := Tryz.isAgg173
  z218 := Tryz.sizeOf173
  v218 := Tryz.zeroValue173
  t222 := Tryz.underlying177
  a222 := Tryz.isAgg177
  z222 := Tryz.sizeOf177
  v222 := Tryz.zeroValue177
  t228 := Tryz.underlying179
  a228 := Tryz.isAgg179
  z228 := Tryz.sizeOf179
  v228 := Tryz.zeroValue179
  t229 := Tryz.underlying180
  a229 := Tryz.isAgg180
  z229 := Tryz.sizeOf180
  v229 := Tryz.zeroValue180 }
open Go.RowKit Ex
theorem ints_map (l : List Int) : ints l = l.map (Value.int .i64) := rfl
theorem sortI_len (l : List Int) : (sortI l).length = l.length := by simp [sortI]
/- slices.Sort -/
theorem sort_any (base n c : Nat) (O : Option Addr) (zs : List Int) (w : World) (h : w.ownsRow base 3 1 (.slice O n c) n (ints zs)) (hl : zs.length ≤ 4096) :
    Calls Tryz.prog 80 #[.slice O n c] w fun e w' => e = .returned (.tuple #[]) ∧ w'.ownsRow base 3 1 (.slice O n c) n (ints (sortI zs)) ∧ w.grownBy w' (Value.slice O n c).ownBlock := by
  have hn : zs.length = n := by have := h.1; simpa [ints] using this
  rcases h.2 with ⟨e, e0⟩ | ⟨g, cap, cur, e, hb, hg, h1, h2, h3, h4⟩
  · injection e with e1 e2 e3
    subst e1; subst e2; subst e3
    have hz : zs = [] := List.eq_nil_of_length_eq_zero hn
    subst hz
    refine (Any.slices_Sort_int_none sortLays none 0 w).mono ?_
    rintro e w' ⟨rfl, rfl⟩
    exact ⟨rfl, by simpa [sortI] using h, ⟨rfl, rfl, rfl, Nat.le_refl _, fun _ _ _ => rfl⟩⟩
  · injection e with e1 e2 e3
    subst e1; subst e3; subst hn
    refine (Any.slices_Sort_int sortLays g 0 c zs w (holds_of_blockI hg (by have h5 := h4; rw [Nat.mul_one, ints_map] at h5; exact h5)) (Array.getElem?_eq_some_iff.1 hg).1 (by omega)).mono ?_
    rintro e w' ⟨rfl, k, os, rfl⟩
    refine ⟨rfl, ?_, grownBy_sortedI _⟩
    have := ownsRow_sortedI (ts := sortI zs) (n := k) (os := os) (sortI_len zs) hb hg h1 h2 h3
    rw [ints_map]
    exact this
end Go.Proofs.YtbppdalfcldodaaGreat
set_option maxRecDepth 100000
namespace Go.Proofs.YtbppdalfcldodaaGreat
open Go.RowKit Ex
set_option linter.unusedSimpArgs false
set_option linter.unusedVariables false

def VxPost (w : World) (l : List Vx) (e : Ending) (w' : World) : Prop := ∃ O n c, e = .returned (.slice O n c) ∧ w'.ownsRow w.heap.size 57 3 (.slice O n c) n (vxs l) ∧ l.length = n ∧ Below w.heap.size w w'
theorem ri_of_own {w : World} {base n c : Nat} {O : Option Addr} {xs : List Int} (h : w.ownsRow base 3 1 (.slice O n c) n (ints xs)) : Gr.RI w w.heap.size ⟨O, n, c⟩ xs := Gr.own_ri h
theorem take_map {α β : Type} (f : α → β) {xs : List α} {k : Nat} {p : α} (h : xs[k]? = some p) : (xs.take (k + 1)).map f = (xs.take k).map f ++ [f p] := by
  rw [List.take_add_one, h]; simp
theorem kept_new {w : World} {base e sz n : Nat} {v : Value} {xs : List Value} (h : w.ownsRow base e sz v n xs) (o : Obj) : (w.alloc o).ownsRow base e sz v n xs :=
  h.kept (World.grownBy_alloc w o none) (by cases v.ownBlock <;> simp)
set_option maxHeartbeats 1000000 in
theorem inStates_any (B n c : Nat) (O : Option Addr) (xs : List Int) (w : World) (hB : B ≤ w.heap.size) (h : Gr.RI w B ⟨O, n, c⟩ xs) (hl : xs.length ≤ 4096) :
    Calls Tryz.prog 81 #[.slice O n c] w (VxPost w (xs.map envV)) := by
  have Hr := hide h
  have hn : xs.length = n := h.1
  have Hn := hide hn
  obtain ⟨i0, hi0, hz0, hz1, hz2⟩ := info57
  have Hi0 := hide hi0; have Hz0 := hide hz0; have Hz1 := hide hz1; have Hz2 := hide hz2
  clear hi0 hz0 hz1 hz2 h hn
  have hnl : n ≤ 4096 := by rw [← Hn.out]; exact hl
  go_enter Tryz.func81, Tryz.ntmps81
  go_wp2_with fail
  go_loopw [3, 8] (fun ov i wr => ∃ (k cc : Nat) (O2 : Option Addr), k ≤ n ∧ i = .int .i64 k ∧ ov = .slice O2 k cc ∧ wr.ownsRow w.heap.size 57 3 (.slice O2 k cc) k (vxs ((xs.take k).map envV)) ∧ Below w.heap.size w wr) (fun ov i _ => n - (intOf i).toNat)
  case atStart => exact ⟨0, 0, none, by omega, rfl, rfl, World.ownsRow_nil _ _ _ _, Below.refl _ _⟩
  case round =>
    obtain ⟨k, cc, O2, hk, rfl, rfl, hown, hb⟩ := hrel
    have Hown := hide hown
    have Hb := hide hb
    have hzr := hb.size
    clear hown hb
    by_cases hlt : k < n
    · have hlt' : ((k : Int) < (n : Int)) := by omega
      obtain ⟨pb, po, p, ePs, hpb, hpk, cp⟩ := Gr.RI.at_ (Gr.RI.below Hr.out (Hb.out.mono hB)) hlt
      subst ePs
      have Htk := hide (take_map envV hpk)
      clear hpk
      go_wp2_with (at_builtin; refine wpList_append_lies _ rfl _ _ _ rfl w.heap.size 57 i0 _ 3 24 Tryz.underlying36 Hi0.out Hz0.out Hz1.out Hz2.out rfl (by omega) (.slice O2 k cc) k (vxs ((xs.take k).map envV)) rfl (kept_new Hown.out _) ⟨wr.heap.size, 0, none⟩ 1 1 [.int .i64 3, .int .i64 p, .int .i64 0] (by rfl) rfl (World.news_of_block (cs := #[.int .i64 3, .int .i64 p, .int .i64 0]) (t := 57) (fr := (0, 0)) (heap_alloc_new wr _)) (by simp [Value.oneCell']) (by omega) (by unfold maxLen; omega) (by omega) (by simp; omega) _ rfl ?_; intro gg cap w7 hown7 hgrow hat hlt7)
      have Hown7 : Hid (w7.ownsRow w.heap.size 57 3 (.slice (some ⟨gg, 0, none⟩) (k + 1) cap) (k + 1) (vxs ((xs.take (k + 1)).map envV))) := hide (by rw [Htk.out, ← vxs_snoc]; exact hown7)
      have Hb7 := hide ((Hb.out.alloc hzr _).grown hgrow (by simp; omega) (fun z hz => (Hown.out.lt z hz).1))
      clear hown7 hgrow hat hlt7
      go_wp2_with fail
      go_roundw
      case rel => exact ⟨k + 1, cap, some ⟨gg, 0, none⟩, by omega, by go_num, rfl, Hown7.out, Hb7.out⟩
      case measure => simp [intOf]; omega
    · have hlt' : ¬ ((k : Int) < (n : Int)) := by omega
      obtain rfl : k = n := by omega
      go_wp2_with fail
      go_ret
      refine ⟨O2, k, cc, rfl, ?_, by simpa using Hn.out, Hb.out⟩
      have h := Hown.out
      rw [← Hn.out, List.take_length] at h
      rw [← Hn.out]; exact h
end Go.Proofs.YtbppdalfcldodaaGreat
set_option maxRecDepth 100000
namespace Go.Proofs.YtbppdalfcldodaaGreat
open Go.RowKit Ex
set_option linter.unusedSimpArgs false
set_option linter.unusedVariables false

theorem owns_base {w : World} {b b' e sz n : Nat} {v : Value} {xs : List Value} (h : w.ownsRow b e sz v n xs) (hb : b' ≤ b) : w.ownsRow b' e sz v n xs := by
  refine ⟨h.1, ?_⟩
  rcases h.2 with h4 | ⟨g, cap, cur, e, h4, h5⟩
  · exact .inl h4
  · exact .inr ⟨g, cap, cur, e, by omega, h5⟩
theorem initE_len (m : MT) : (initEnvL m).length ≤ 512 := by
  unfold initEnvL
  split
  · have := upTo_len (fun p => pickB m.vars p && trueE m.vars m.ie p p) (totN m)
    have h2 := (Dom.totL_bd m.vars).2
    unfold totN at this ⊢
    omega
  · simp
theorem initS_len (m : MT) (p : Int) : (initSysL m p).length ≤ 512 := by
  unfold initSysL
  split
  · have := upTo_len (fun s => (Dom.partL m.vars s true == p) && trueE m.vars m.is s s) (totN m)
    have h2 := (Dom.totL_bd m.vars).2
    unfold totN at this ⊢
    omega
  · simp
theorem env_len (m : MT) (s : Int) : (envL m s).length ≤ 512 := by
  unfold envL
  split
  · have := upTo_len (fun p => m.env.any (fun c => pickB m.vars p && doesB m.vars c true s s p)) (totN m)
    have h2 := (Dom.totL_bd m.vars).2
    unfold totN at this ⊢
    omega
  · simp
theorem sys_len (m : MT) (s p : Int) : (sysL m s p).length ≤ 512 := by
  unfold sysL
  split
  · have := upTo_len (fun z => m.sys.any (fun c => (Dom.partL m.vars z true == p) && doesB m.vars c false s p z)) (totN m)
    have h2 := (Dom.totL_bd m.vars).2
    unfold totN at this ⊢
    omega
  · simp
set_option maxHeartbeats 2000000 in
theorem after1 (B : Nat) (x : M8) (m : MT) (b c : Int) (w : World) (hB : B ≤ w.heap.size) (hrm : RM w B x m) :
    Calls Tryz.prog 41 #[.agg x.cells, .agg #[.int .i64 1, .int .i64 b, .int .i64 c]] w (VxPost w ((initEnvL m).map startV)) := by
  have hbx : Below w.heap.size w ((w.alloc (.cells x.cells 28)).alloc (.cells #[.int .i64 1, .int .i64 b, .int .i64 c] 57)) := ((Below.refl w.heap.size w).alloc (Nat.le_refl _) (.cells x.cells 28)).alloc (by simp) (.cells #[.int .i64 1, .int .i64 b, .int .i64 c] 57)
  have Hrm := hide (hrm.below (hbx.mono hB))
  have hbo := (boxM_new w x).below ((Below.refl _ _).alloc (Nat.le_refl _) (.cells #[.int .i64 1, .int .i64 b, .int .i64 c] 57)) (by simp)
  have Hb0 := hide hbx
  obtain ⟨d0, d1, d2⟩ := box57 (w.alloc (.cells x.cells 28)) 1 b c 57
  have hz1 : (w.alloc (.cells x.cells 28)).heap.size = w.heap.size + 1 := by simp
  have hz2 : ((w.alloc (.cells x.cells 28)).alloc (.cells #[.int .i64 1, .int .i64 b, .int .i64 c] 57)).heap.size = w.heap.size + 2 := by simp
  rw [hz1] at d0 d1 d2
  obtain ⟨i0, hi0, hz0, hy1, hy2⟩ := info57
  have Hi0 := hide hi0; have Hz0 := hide hz0; have Hz1 := hide hy1; have Hz2 := hide hy2
  clear hi0 hz0 hy1 hy2 hrm hbx
  obtain ⟨⟨vA, vn, vc⟩, ⟨io, im, iA, il, ic⟩, ⟨jo, jm, jA, jl, jc⟩, ⟨eA, en, ec⟩, ⟨sA, sn, sc⟩, ⟨aA, an, ac⟩, ⟨nA, nn, nc⟩, ⟨pA, pn, pc⟩⟩ := x
  simp only [M8.cells, SL.v] at *
  obtain ⟨q0, q1, q2, q3, q4, q5, q6, q7, q8, q9, q10, q11⟩ := row12 hbo
  simp only at q0 q1 q2 q3 q4 q5 q6 q7 q8 q9 q10 q11
  clear hbo
  go_enter Tryz.func41, Tryz.ntmps41
  go_wp2_with fail
  clear q0 q1 q2 q3 q4 q5 q6 q7 q8 q9 q10 q11
  generalize (w.alloc (.cells #[.slice vA vn vc, .int .i64 io, .int .i64 im, .slice iA il ic, .int .i64 jo, .int .i64 jm, .slice jA jl jc, .slice eA en ec, .slice sA sn sc, .slice aA an ac, .slice nA nn nc, .slice pA pn pc] 28)).alloc (.cells #[.int .i64 1, .int .i64 b, .int .i64 c] 57) = w0 at *
  refine (dinitE_any B ⟨⟨vA, vn, vc⟩, ⟨io, im, iA, il, ic⟩, ⟨jo, jm, jA, jl, jc⟩, ⟨eA, en, ec⟩, ⟨sA, sn, sc⟩, ⟨aA, an, ac⟩, ⟨nA, nn, nc⟩, ⟨pA, pn, pc⟩⟩ m w0 (by omega) Hrm.out).mono ?_
  intro e w1 hp
  obtain ⟨O, n, cO, rfl, p2, p3, p4⟩ := hp
  have hz3 := p4.size
  have Hb1 := hide (Hb0.out.trans (p4.mono (by omega)))
  have Hri := hide (ri_of_own p2)
  have Hn : Hid ((initEnvL m).length = n) := hide p3
  have hnl : n ≤ 512 := by rw [← p3]; exact initE_len m
  generalize initEnvL m = xs at *
  clear p2 p4 p3 Hb0 Hrm
  go_wp2_with fail
  go_loopw [5, 17] (fun ov i wr => ∃ (k cc : Nat) (O2 : Option Addr), k ≤ n ∧ i = .int .i64 k ∧ ov = .slice O2 k cc ∧ wr.ownsRow w1.heap.size 57 3 (.slice O2 k cc) k (vxs ((xs.take k).map (startV))) ∧ Below w1.heap.size w1 wr) (fun ov i _ => n - (intOf i).toNat)
  case atStart => exact ⟨0, 0, none, by omega, rfl, rfl, World.ownsRow_nil _ _ _ _, Below.refl _ _⟩
  case round =>
    obtain ⟨k, cc, O2, hk, rfl, rfl, hown, hb⟩ := hrel
    have Hown := hide hown
    have Hb := hide hb
    have hzr := hb.size
    clear hown hb
    by_cases hlt : k < n
    · have hlt' : ((k : Int) < (n : Int)) := by omega
      obtain ⟨pb, po, p, ePs, hpb, hpk, cp⟩ := Gr.RI.at_ (Gr.RI.below Hri.out Hb.out) hlt
      subst ePs
      have Htk := hide (take_map (startV) hpk)
      clear hpk
      go_wp2_with (at_builtin; refine wpList_append_lies _ rfl _ _ _ rfl w1.heap.size 57 i0 _ 3 24 Tryz.underlying36 Hi0.out Hz0.out Hz1.out Hz2.out rfl (by omega) (.slice O2 k cc) k (vxs ((xs.take k).map (startV))) rfl (kept_new Hown.out _) ⟨wr.heap.size, 0, none⟩ 1 1 [.int .i64 2, .int .i64 0, .int .i64 p] (by rfl) rfl (World.news_of_block (cs := #[.int .i64 2, .int .i64 0, .int .i64 p]) (t := 57) (fr := (0, 0)) (heap_alloc_new wr _)) (by simp [Value.oneCell']) (by omega) (by unfold maxLen; omega) (by omega) (by simp; omega) _ rfl ?_; intro gg cap w7 hown7 hgrow hat hlt7)
      have Hown7 : Hid (w7.ownsRow w1.heap.size 57 3 (.slice (some ⟨gg, 0, none⟩) (k + 1) cap) (k + 1) (vxs ((xs.take (k + 1)).map (startV)))) := hide (by rw [Htk.out, ← vxs_snoc]; exact hown7)
      have Hb7 := hide ((Hb.out.alloc hzr _).grown hgrow (by simp; omega) (fun z hz => (Hown.out.lt z hz).1))
      clear hown7 hgrow hat hlt7
      go_wp2_with fail
      go_roundw
      case rel => exact ⟨k + 1, cap, some ⟨gg, 0, none⟩, by omega, by go_num, rfl, Hown7.out, Hb7.out⟩
      case measure => simp [intOf]; omega
    · have hlt' : ¬ ((k : Int) < (n : Int)) := by omega
      obtain rfl : k = n := by omega
      go_wp2_with fail
      go_ret
      refine ⟨O2, k, cc, rfl, ?_, by simpa using Hn.out, Hb1.out.trans (Hb.out.mono (by omega))⟩
      have h := Hown.out
      rw [← Hn.out, List.take_length] at h
      rw [← Hn.out]; exact owns_base h (by omega)
set_option maxHeartbeats 2000000 in
theorem after2 (B : Nat) (x : M8) (m : MT) (b c : Int) (w : World) (hB : B ≤ w.heap.size) (hrm : RM w B x m) :
    Calls Tryz.prog 41 #[.agg x.cells, .agg #[.int .i64 2, .int .i64 b, .int .i64 c]] w (VxPost w ((initSysL m c).map envV)) := by
  have hbx : Below w.heap.size w ((w.alloc (.cells x.cells 28)).alloc (.cells #[.int .i64 2, .int .i64 b, .int .i64 c] 57)) := ((Below.refl w.heap.size w).alloc (Nat.le_refl _) (.cells x.cells 28)).alloc (by simp) (.cells #[.int .i64 2, .int .i64 b, .int .i64 c] 57)
  have Hrm := hide (hrm.below (hbx.mono hB))
  have hbo := (boxM_new w x).below ((Below.refl _ _).alloc (Nat.le_refl _) (.cells #[.int .i64 2, .int .i64 b, .int .i64 c] 57)) (by simp)
  have Hb0 := hide hbx
  obtain ⟨d0, d1, d2⟩ := box57 (w.alloc (.cells x.cells 28)) 2 b c 57
  have hz1 : (w.alloc (.cells x.cells 28)).heap.size = w.heap.size + 1 := by simp
  have hz2 : ((w.alloc (.cells x.cells 28)).alloc (.cells #[.int .i64 2, .int .i64 b, .int .i64 c] 57)).heap.size = w.heap.size + 2 := by simp
  rw [hz1] at d0 d1 d2
  obtain ⟨i0, hi0, hz0, hy1, hy2⟩ := info57
  have Hi0 := hide hi0; have Hz0 := hide hz0; have Hz1 := hide hy1; have Hz2 := hide hy2
  clear hi0 hz0 hy1 hy2 hrm hbx
  obtain ⟨⟨vA, vn, vc⟩, ⟨io, im, iA, il, ic⟩, ⟨jo, jm, jA, jl, jc⟩, ⟨eA, en, ec⟩, ⟨sA, sn, sc⟩, ⟨aA, an, ac⟩, ⟨nA, nn, nc⟩, ⟨pA, pn, pc⟩⟩ := x
  simp only [M8.cells, SL.v] at *
  obtain ⟨q0, q1, q2, q3, q4, q5, q6, q7, q8, q9, q10, q11⟩ := row12 hbo
  simp only at q0 q1 q2 q3 q4 q5 q6 q7 q8 q9 q10 q11
  clear hbo
  go_enter Tryz.func41, Tryz.ntmps41
  go_wp2_with fail
  clear q0 q1 q2 q3 q4 q5 q6 q7 q8 q9 q10 q11
  generalize (w.alloc (.cells #[.slice vA vn vc, .int .i64 io, .int .i64 im, .slice iA il ic, .int .i64 jo, .int .i64 jm, .slice jA jl jc, .slice eA en ec, .slice sA sn sc, .slice aA an ac, .slice nA nn nc, .slice pA pn pc] 28)).alloc (.cells #[.int .i64 2, .int .i64 b, .int .i64 c] 57) = w0 at *
  refine (dinitS_any B ⟨⟨vA, vn, vc⟩, ⟨io, im, iA, il, ic⟩, ⟨jo, jm, jA, jl, jc⟩, ⟨eA, en, ec⟩, ⟨sA, sn, sc⟩, ⟨aA, an, ac⟩, ⟨nA, nn, nc⟩, ⟨pA, pn, pc⟩⟩ m c w0 (by omega) Hrm.out).mono ?_
  intro e w1 hp
  obtain ⟨O, n, cO, rfl, p2, p3, p4⟩ := hp
  have hz3 := p4.size
  have Hb1 := hide (Hb0.out.trans (p4.mono (by omega)))
  have Hri := hide (ri_of_own p2)
  have hnl : (initSysL m c).length ≤ 4096 := Nat.le_trans (initS_len m c) (by omega)
  generalize initSysL m c = xs at *
  clear p2 p4 p3 Hb0 Hrm
  go_wp2_with fail
  refine (inStates_any w1.heap.size n cO O xs w1 (Nat.le_refl _) Hri.out hnl).mono ?_
  intro e w2 hp
  obtain ⟨O3, n3, c3, rfl, r2, r3, r4⟩ := hp
  have Hr2 := hide r2; have Hr3 := hide r3; have Hr4 := hide r4
  clear r2 r3 r4
  go_wp2_with fail
  go_ret
  exact ⟨O3, n3, c3, rfl, owns_base Hr2.out (by omega), Hr3.out, Hb1.out.trans (Hr4.out.mono (by omega))⟩
set_option maxHeartbeats 2000000 in
theorem after3 (B : Nat) (x : M8) (m : MT) (b c : Int) (w : World) (hB : B ≤ w.heap.size) (hrm : RM w B x m) :
    Calls Tryz.prog 41 #[.agg x.cells, .agg #[.int .i64 3, .int .i64 b, .int .i64 c]] w (VxPost w ((envL m b).map (sysV b))) := by
  have hbx : Below w.heap.size w ((w.alloc (.cells x.cells 28)).alloc (.cells #[.int .i64 3, .int .i64 b, .int .i64 c] 57)) := ((Below.refl w.heap.size w).alloc (Nat.le_refl _) (.cells x.cells 28)).alloc (by simp) (.cells #[.int .i64 3, .int .i64 b, .int .i64 c] 57)
  have Hrm := hide (hrm.below (hbx.mono hB))
  have hbo := (boxM_new w x).below ((Below.refl _ _).alloc (Nat.le_refl _) (.cells #[.int .i64 3, .int .i64 b, .int .i64 c] 57)) (by simp)
  have Hb0 := hide hbx
  obtain ⟨d0, d1, d2⟩ := box57 (w.alloc (.cells x.cells 28)) 3 b c 57
  have hz1 : (w.alloc (.cells x.cells 28)).heap.size = w.heap.size + 1 := by simp
  have hz2 : ((w.alloc (.cells x.cells 28)).alloc (.cells #[.int .i64 3, .int .i64 b, .int .i64 c] 57)).heap.size = w.heap.size + 2 := by simp
  rw [hz1] at d0 d1 d2
  obtain ⟨i0, hi0, hz0, hy1, hy2⟩ := info57
  have Hi0 := hide hi0; have Hz0 := hide hz0; have Hz1 := hide hy1; have Hz2 := hide hy2
  clear hi0 hz0 hy1 hy2 hrm hbx
  obtain ⟨⟨vA, vn, vc⟩, ⟨io, im, iA, il, ic⟩, ⟨jo, jm, jA, jl, jc⟩, ⟨eA, en, ec⟩, ⟨sA, sn, sc⟩, ⟨aA, an, ac⟩, ⟨nA, nn, nc⟩, ⟨pA, pn, pc⟩⟩ := x
  simp only [M8.cells, SL.v] at *
  obtain ⟨q0, q1, q2, q3, q4, q5, q6, q7, q8, q9, q10, q11⟩ := row12 hbo
  simp only at q0 q1 q2 q3 q4 q5 q6 q7 q8 q9 q10 q11
  clear hbo
  go_enter Tryz.func41, Tryz.ntmps41
  go_wp2_with fail
  clear q0 q1 q2 q3 q4 q5 q6 q7 q8 q9 q10 q11
  generalize (w.alloc (.cells #[.slice vA vn vc, .int .i64 io, .int .i64 im, .slice iA il ic, .int .i64 jo, .int .i64 jm, .slice jA jl jc, .slice eA en ec, .slice sA sn sc, .slice aA an ac, .slice nA nn nc, .slice pA pn pc] 28)).alloc (.cells #[.int .i64 3, .int .i64 b, .int .i64 c] 57) = w0 at *
  refine (denv_any B ⟨⟨vA, vn, vc⟩, ⟨io, im, iA, il, ic⟩, ⟨jo, jm, jA, jl, jc⟩, ⟨eA, en, ec⟩, ⟨sA, sn, sc⟩, ⟨aA, an, ac⟩, ⟨nA, nn, nc⟩, ⟨pA, pn, pc⟩⟩ m b w0 (by omega) Hrm.out).mono ?_
  intro e w1 hp
  obtain ⟨O, n, cO, rfl, p2, p3, p4⟩ := hp
  have hz3 := p4.size
  have Hb1 := hide (Hb0.out.trans (p4.mono (by omega)))
  have Hri := hide (ri_of_own p2)
  have Hn : Hid ((envL m b).length = n) := hide p3
  have hnl : n ≤ 512 := by rw [← p3]; exact env_len m b
  have Hd1 : Hid (w1.cell? ⟨w.heap.size + 1, 1, none⟩ = some (.int .i64 b)) := hide ((p4.cell (by show w.heap.size + 1 < _; omega)).trans d1)
  generalize envL m b = xs at *
  clear p2 p4 p3 Hb0 Hrm
  go_wp2_with fail
  go_loopw [5, 41] (fun ov i wr => ∃ (k cc : Nat) (O2 : Option Addr), k ≤ n ∧ i = .int .i64 k ∧ ov = .slice O2 k cc ∧ wr.ownsRow w1.heap.size 57 3 (.slice O2 k cc) k (vxs ((xs.take k).map (sysV b))) ∧ Below w1.heap.size w1 wr) (fun ov i _ => n - (intOf i).toNat)
  case atStart => exact ⟨0, 0, none, by omega, rfl, rfl, World.ownsRow_nil _ _ _ _, Below.refl _ _⟩
  case round =>
    obtain ⟨k, cc, O2, hk, rfl, rfl, hown, hb⟩ := hrel
    have Hown := hide hown
    have Hb := hide hb
    have hzr := hb.size
    clear hown hb
    by_cases hlt : k < n
    · have hlt' : ((k : Int) < (n : Int)) := by omega
      obtain ⟨pb, po, p, ePs, hpb, hpk, cp⟩ := Gr.RI.at_ (Gr.RI.below Hri.out Hb.out) hlt
      subst ePs
      have Htk := hide (take_map (sysV b) hpk)
      have d1r : wr.cell? ⟨w.heap.size + 1, 1, none⟩ = some (.int .i64 b) := (Hb.out.cell (by show w.heap.size + 1 < _; omega)).trans Hd1.out
      clear hpk
      go_wp2_with (at_builtin; refine wpList_append_lies _ rfl _ _ _ rfl w1.heap.size 57 i0 _ 3 24 Tryz.underlying36 Hi0.out Hz0.out Hz1.out Hz2.out rfl (by omega) (.slice O2 k cc) k (vxs ((xs.take k).map (sysV b))) rfl (kept_new Hown.out _) ⟨wr.heap.size, 0, none⟩ 1 1 [.int .i64 4, .int .i64 b, .int .i64 p] (by rfl) rfl (World.news_of_block (cs := #[.int .i64 4, .int .i64 b, .int .i64 p]) (t := 57) (fr := (0, 0)) (heap_alloc_new wr _)) (by simp [Value.oneCell']) (by omega) (by unfold maxLen; omega) (by omega) (by simp; omega) _ rfl ?_; intro gg cap w7 hown7 hgrow hat hlt7)
      have Hown7 : Hid (w7.ownsRow w1.heap.size 57 3 (.slice (some ⟨gg, 0, none⟩) (k + 1) cap) (k + 1) (vxs ((xs.take (k + 1)).map (sysV b)))) := hide (by rw [Htk.out, ← vxs_snoc]; exact hown7)
      have Hb7 := hide ((Hb.out.alloc hzr _).grown hgrow (by simp; omega) (fun z hz => (Hown.out.lt z hz).1))
      clear hown7 hgrow hat hlt7
      go_wp2_with fail
      go_roundw
      case rel => exact ⟨k + 1, cap, some ⟨gg, 0, none⟩, by omega, by go_num, rfl, Hown7.out, Hb7.out⟩
      case measure => simp [intOf]; omega
    · have hlt' : ¬ ((k : Int) < (n : Int)) := by omega
      obtain rfl : k = n := by omega
      go_wp2_with fail
      go_ret
      refine ⟨O2, k, cc, rfl, ?_, by simpa using Hn.out, Hb1.out.trans (Hb.out.mono (by omega))⟩
      have h := Hown.out
      rw [← Hn.out, List.take_length] at h
      rw [← Hn.out]; exact owns_base h (by omega)
set_option maxHeartbeats 2000000 in
theorem after4 (B : Nat) (x : M8) (m : MT) (b c : Int) (w : World) (hB : B ≤ w.heap.size) (hrm : RM w B x m) :
    Calls Tryz.prog 41 #[.agg x.cells, .agg #[.int .i64 4, .int .i64 b, .int .i64 c]] w (VxPost w ((sysL m b c).map envV)) := by
  have hbx : Below w.heap.size w ((w.alloc (.cells x.cells 28)).alloc (.cells #[.int .i64 4, .int .i64 b, .int .i64 c] 57)) := ((Below.refl w.heap.size w).alloc (Nat.le_refl _) (.cells x.cells 28)).alloc (by simp) (.cells #[.int .i64 4, .int .i64 b, .int .i64 c] 57)
  have Hrm := hide (hrm.below (hbx.mono hB))
  have hbo := (boxM_new w x).below ((Below.refl _ _).alloc (Nat.le_refl _) (.cells #[.int .i64 4, .int .i64 b, .int .i64 c] 57)) (by simp)
  have Hb0 := hide hbx
  obtain ⟨d0, d1, d2⟩ := box57 (w.alloc (.cells x.cells 28)) 4 b c 57
  have hz1 : (w.alloc (.cells x.cells 28)).heap.size = w.heap.size + 1 := by simp
  have hz2 : ((w.alloc (.cells x.cells 28)).alloc (.cells #[.int .i64 4, .int .i64 b, .int .i64 c] 57)).heap.size = w.heap.size + 2 := by simp
  rw [hz1] at d0 d1 d2
  obtain ⟨i0, hi0, hz0, hy1, hy2⟩ := info57
  have Hi0 := hide hi0; have Hz0 := hide hz0; have Hz1 := hide hy1; have Hz2 := hide hy2
  clear hi0 hz0 hy1 hy2 hrm hbx
  obtain ⟨⟨vA, vn, vc⟩, ⟨io, im, iA, il, ic⟩, ⟨jo, jm, jA, jl, jc⟩, ⟨eA, en, ec⟩, ⟨sA, sn, sc⟩, ⟨aA, an, ac⟩, ⟨nA, nn, nc⟩, ⟨pA, pn, pc⟩⟩ := x
  simp only [M8.cells, SL.v] at *
  obtain ⟨q0, q1, q2, q3, q4, q5, q6, q7, q8, q9, q10, q11⟩ := row12 hbo
  simp only at q0 q1 q2 q3 q4 q5 q6 q7 q8 q9 q10 q11
  clear hbo
  go_enter Tryz.func41, Tryz.ntmps41
  go_wp2_with fail
  clear q0 q1 q2 q3 q4 q5 q6 q7 q8 q9 q10 q11
  generalize (w.alloc (.cells #[.slice vA vn vc, .int .i64 io, .int .i64 im, .slice iA il ic, .int .i64 jo, .int .i64 jm, .slice jA jl jc, .slice eA en ec, .slice sA sn sc, .slice aA an ac, .slice nA nn nc, .slice pA pn pc] 28)).alloc (.cells #[.int .i64 4, .int .i64 b, .int .i64 c] 57) = w0 at *
  refine (dsys_any B ⟨⟨vA, vn, vc⟩, ⟨io, im, iA, il, ic⟩, ⟨jo, jm, jA, jl, jc⟩, ⟨eA, en, ec⟩, ⟨sA, sn, sc⟩, ⟨aA, an, ac⟩, ⟨nA, nn, nc⟩, ⟨pA, pn, pc⟩⟩ m b c w0 (by omega) Hrm.out).mono ?_
  intro e w1 hp
  obtain ⟨O, n, cO, rfl, p2, p3, p4⟩ := hp
  have hz3 := p4.size
  have Hb1 := hide (Hb0.out.trans (p4.mono (by omega)))
  have Hri := hide (ri_of_own p2)
  have hnl : (sysL m b c).length ≤ 4096 := Nat.le_trans (sys_len m b c) (by omega)
  generalize sysL m b c = xs at *
  clear p2 p4 p3 Hb0 Hrm
  go_wp2_with fail
  refine (inStates_any w1.heap.size n cO O xs w1 (Nat.le_refl _) Hri.out hnl).mono ?_
  intro e w2 hp
  obtain ⟨O3, n3, c3, rfl, r2, r3, r4⟩ := hp
  have Hr2 := hide r2; have Hr3 := hide r3; have Hr4 := hide r4
  clear r2 r3 r4
  go_wp2_with fail
  go_ret
  exact ⟨O3, n3, c3, rfl, owns_base Hr2.out (by omega), Hr3.out, Hb1.out.trans (Hr4.out.mono (by omega))⟩
theorem after_any (B : Nat) (x : M8) (m : MT) (v : Vx) (T : Nat) (w : World) (hB : B ≤ w.heap.size) (hrm : RM w B x m) (hv : OkV (T : Int) v) :
    Calls Tryz.prog 41 #[.agg x.cells, vxV v] w (VxPost w (succV m v)) := by
  rcases hv with rfl | ⟨p, rfl, _, _⟩ | ⟨s, rfl, _, _⟩ | ⟨s, p, rfl, _, _, _, _⟩
  · exact after1 B x m 0 0 w hB hrm
  · have e : succV m (startV p) = (initSysL m p).map envV := by simp [succV, startV]
    rw [e]; exact after2 B x m 0 p w hB hrm
  · have e : succV m (envV s) = (envL m s).map (sysV s) := by simp [succV, envV]
    rw [e]; exact after3 B x m s 0 w hB hrm
  · have e : succV m (sysV s p) = (sysL m s p).map envV := by simp [succV, sysV]
    rw [e]; exact after4 B x m s p w hB hrm
end Go.Proofs.YtbppdalfcldodaaGreat
set_option maxRecDepth 100000
namespace Go.Proofs.YtbppdalfcldodaaGreat
open Go.RowKit Ex
set_option linter.unusedSimpArgs false
set_option linter.unusedVariables false

theorem own_fr {w w' : World} {H H' : List Nat} {b e sz n : Nat} {v : Value} {xs : List Value} (h : w.ownsRow b e sz v n xs) (hf : Fr H H' w w') (hk : ∀ k, v.ownBlock = some k → k ∉ H) : w'.ownsRow b e sz v n xs := by
  refine ⟨h.1, ?_⟩
  rcases h.2 with h4 | ⟨g, cap, cur, e, h4, h5, h6⟩
  · exact .inl h4
  · exact .inr ⟨g, cap, cur, e, h4, hf.heap h5 (hk g (by rw [e]; rfl)), h6⟩
theorem fr_grow {H H' : List Nat} {w w2 w7 : World} {row : Option Nat} (h : Fr H H' w w2) (hg : w2.grownBy w7 row) (hr : ∀ z, row = some z → w.heap.size ≤ z) : Fr H H' w w7 :=
  ⟨hg.os.trans h.os, hg.tape.trans h.tape, hg.output.trans h.output, Nat.le_trans h.size hg.size, fun k hk hn => (hg.block k (Nat.lt_of_lt_of_le hk h.size) (fun e => by have := hr k e.symm; omega)).trans (h.block k hk hn), h.new⟩
theorem FS.grow {w w7 : World} {lo F M : Nat} {s : SL} {l : List Vx} {row : Option Nat} (h : FS w lo F M s l) (hg : w.grownBy w7 row) (hr : ∀ z, row = some z → z ∉ fsH F M s) : FS w7 lo F M s l :=
  h.keep fun k hk => hg.block k (h.lt k hk) (fun e => hr k e.symm hk)
theorem info3A : ∃ i, Tryz.prog.info? 3 = some i ∧ i.zero = some (.int .i64 0) ∧ i.size = 1 ∧ i.bytes = 8 := by
  have h : (Tryz.prog.info? 3).map (fun i => (i.zero, i.size, i.bytes)) = some (some (.int .i64 0), 1, 8) := by kernel_rfl
  cases hi : Tryz.prog.info? 3 with
  | none => rw [hi] at h; cases h
  | some i =>
    rw [hi] at h
    simp only [Option.map_some, Option.some.injEq, Prod.mk.injEq] at h
    exact ⟨i, rfl, h.1, h.2.1, h.2.2⟩
theorem nums_snoc {l xs : List Vx} {k : Nat} {x : Vx} (h : xs[k]? = some x) : (xs.take (k + 1)).map (numI (addL l (xs.take (k + 1)))) = (xs.take k).map (numI (addL l (xs.take k))) ++ [numI (addV (addL l (xs.take k)) x) x] := by
  rw [List.take_add_one, h]
  simp only [Option.toList_some, addL_snoc, List.map_append, List.map_cons, List.map_nil]
  congr 1
  exact List.map_congr_left fun y hy => numI_addV (addL_mem.2 (.inr hy))
theorem addL_len : ∀ (xs l : List Vx), (addL l xs).length ≤ l.length + xs.length
  | [], l => by simp [addL]
  | x :: xs, l => by
    rw [addL_cons]
    have := addL_len xs (addV l x)
    have h2 : (addV l x).length ≤ l.length + 1 := by unfold addV; split <;> simp
    simp only [List.length_cons]; omega
def RowPostA (w : World) (lo F M : Nat) (s : SL) (l xs : List Vx) (e : Ending) (w' : World) : Prop :=
  ∃ O n c s', e = .returned (.slice O n c) ∧ w'.ownsRow w.heap.size 3 1 (.slice O n c) n (ints (sortI (xs.map (numI (addL l xs))))) ∧ n = xs.length ∧ FS w' lo F M s' (addL l xs) ∧ Fr (fsH F M s) (fsH F M s') w w' ∧ ∀ z, (Value.slice O n c).ownBlock = some z → z ∉ fsH F M s'
set_option maxHeartbeats 4000000 in
theorem row_any (lo F M b0 n c : Nat) (O : Option Addr) (s : SL) (l xs : List Vx) (w : World) (h : FS w lo F M s l) (hx : ∀ y ∈ xs, SmV y) (hl : l.length + xs.length ≤ 4000) (hlo : lo ≤ w.heap.size) (hrow : w.ownsRow b0 57 3 (.slice O n c) n (vxs xs)) (hfar : ∀ k ∈ fsH F M s, k < b0) :
    Calls Tryz.prog 40 #[.pointer (some ⟨F, 0, none⟩), .slice O n c] w (RowPostA w lo F M s l xs) := by
  have Hfs := hide h
  have Hx := hide hx
  have Hrow := hide hrow
  have Hnf : Hid (∀ k, (Value.slice O n c).ownBlock = some k → k ∉ fsH F M s) := hide fun k hk hm => by
    have := (hrow.lt k hk).1
    have := hfar k hm; omega
  have hn : xs.length = n := (vx_rows hrow).1
  have Hn := hide hn
  obtain ⟨i0, hi0, hz0, hy1, hy2⟩ := info3A
  have Hi0 := hide hi0; have Hz0 := hide hz0; have Hz1 := hide hy1; have Hz2 := hide hy2
  have hll : l.length + n ≤ 4000 := by omega
  clear hi0 hz0 hy1 hy2 h hn hx hrow hfar
  go_enter Tryz.func40, Tryz.ntmps40
  go_wp2_with fail
  go_loopw [5, 10] (fun ov i wr => ∃ (k cc : Nat) (O2 : Option Addr) (s2 : SL), k ≤ n ∧ i = .int .i64 k ∧ ov = .slice O2 k cc ∧ wr.ownsRow w.heap.size 3 1 (.slice O2 k cc) k (ints ((xs.take k).map (numI (addL l (xs.take k))))) ∧ FS wr lo F M s2 (addL l (xs.take k)) ∧ Fr (fsH F M s) (fsH F M s2) w wr ∧ ∀ z, (Value.slice O2 k cc).ownBlock = some z → z ∉ fsH F M s2) (fun ov i _ => n - (intOf i).toNat)
  case atStart => exact ⟨0, 0, none, s, by omega, rfl, rfl, World.ownsRow_nil _ _ _ _, Hfs.out, Fr.refl _ _, fun z hz => by cases hz⟩
  case round =>
    obtain ⟨k, cc, O2, s2, hk, rfl, rfl, hown, hfs, hfr, hno⟩ := hrel
    have Hown := hide hown
    have Hf2 := hide hfs
    have Hr2 := hide hfr
    have Hno := hide hno
    have hzr := hfr.size
    have Hxr := hide (vx_rows (own_fr Hrow.out hfr Hnf.out))
    clear hown hfs hfr hno
    by_cases hlt : k < n
    · have hlt' : ((k : Int) < (n : Int)) := by omega
      obtain ⟨pb, po, p, q, r, ePs, hpb, hpk, cp, cq, cr⟩ := RVx.at_ Hxr.out hlt
      subst ePs
      have Htk := hide (nums_snoc (l := l) hpk)
      have Hat := hide (show addL l (xs.take (k + 1)) = addV (addL l (xs.take k)) (p, q, r) by rw [List.take_add_one, hpk]; simp only [Option.toList_some, addL_snoc])
      have Hsm := hide (Hx.out (p, q, r) (List.mem_of_getElem? hpk))
      have hll2 : (addL l (xs.take k)).length ≤ 4000 := Nat.le_trans (addL_len _ _) (by simp; omega)
      clear hpk
      have hbA := (Below.refl wr.heap.size wr).alloc (Nat.le_refl _) (.cells #[.int .i64 p, .int .i64 q, .int .i64 r] 57)
      have HbA := hide hbA
      obtain ⟨d0, d1, d2⟩ := box57 wr p q r 57
      clear hbA
      go_wp2_with fail
      clear d0 d1 d2 cp cq cr
      refine (number_any lo F M s2 (addL l (xs.take k)) (p, q, r) _ (Hf2.out.below HbA.out) Hsm.out hll2 (by simp; omega)).mono ?_
      rintro e w2 ⟨rfl, s3, hf3, hr3⟩
      have Hf3 := hide hf3
      have Hr3 := hide ((Fr.of_below (H := fsH F M s2) HbA.out).trans hr3)
      have hz2 := hr3.size
      have hz2' : wr.heap.size + 1 ≤ w2.heap.size := by simpa using hz2
      have Hown2 := hide (own_fr (kept_new Hown.out (.cells #[.int .i64 p, .int .i64 q, .int .i64 r] 57)) hr3 Hno.out)
      have Hno2 : Hid (∀ z, (Value.slice O2 k cc).ownBlock = some z → z ∉ fsH F M s3) := hide fun z hz hm => by
        rcases Hr3.out.new z hm with h1 | h1
        · exact Hno.out z hz h1
        · have := (Hown.out.lt z hz).2; omega
      have Hmin : Hid (∀ z, (Value.slice O2 k cc).ownBlock = some z → w.heap.size ≤ z) := hide fun z hz => (Hown.out.lt z hz).1
      clear hf3 hr3 hz2
      generalize numI (addV (addL l (xs.take k)) (p, q, r)) (p, q, r) = num at *
      go_wp2_with (at_builtin; refine wpList_append_lies _ rfl _ _ _ rfl w.heap.size 3 i0 _ 1 8 Tryz.underlying32 Hi0.out Hz0.out Hz1.out Hz2.out rfl (by omega) (.slice O2 k cc) k (ints ((xs.take k).map (numI (addL l (xs.take k))))) rfl (kept_new Hown2.out _) ⟨w2.heap.size, 0, none⟩ 1 1 [.int .i64 num] (by rfl) rfl (World.news_of_block (cs := #[.int .i64 num]) (t := 3) (fr := (0, 0)) (heap_alloc_new w2 _)) (by simp [Value.oneCell']) (by omega) (by unfold maxLen; omega) (by omega) (by simp; omega) _ rfl ?_; intro gg cap w7 hown7 hgrow hat hlt7)
      have Hown7 : Hid (w7.ownsRow w.heap.size 3 1 (.slice (some ⟨gg, 0, none⟩) (k + 1) cap) (k + 1) (ints ((xs.take (k + 1)).map (numI (addL l (xs.take (k + 1))))))) := hide (by rw [Htk.out, ← ints_snoc]; exact hown7)
      have Hf7 : Hid (FS w7 lo F M s3 (addL l (xs.take (k + 1)))) := hide (by rw [Hat.out]; exact ((Hf3.out.below ((Below.refl _ _).alloc (Nat.le_refl _) _)).grow hgrow Hno2.out))
      have Hr7 : Hid (Fr (fsH F M s) (fsH F M s3) w w7) := hide (fr_grow ((Hr2.out.trans Hr3.out).trans (Fr.of_below ((Below.refl _ _).alloc (Nat.le_refl _) _))) hgrow Hmin.out)
      have Hno7 : Hid (∀ z, (Value.slice (some ⟨gg, 0, none⟩) (k + 1) cap).ownBlock = some z → z ∉ fsH F M s3) := hide fun z hz hm => by
        have e : gg = z := by simpa [Value.ownBlock] using hz
        subst e
        rcases hat with h1 | h1
        · exact Hno2.out gg h1 hm
        · have := Hf3.out.lt gg hm
          simp at h1; omega
      clear hown7 hgrow hat hlt7
      go_wp2_with fail
      go_roundw
      case rel => exact ⟨k + 1, cap, some ⟨gg, 0, none⟩, s3, by omega, by go_num, rfl, Hown7.out, Hf7.out, Hr7.out, Hno7.out⟩
      case measure => simp [intOf]; omega
    · have hlt' : ¬ ((k : Int) < (n : Int)) := by omega
      obtain rfl : k = n := by omega
      have Htake : Hid (xs.take k = xs) := hide (by rw [← Hn.out, List.take_length])
      have Hown2 : Hid (wr.ownsRow w.heap.size 3 1 (.slice O2 k cc) k (ints (xs.map (numI (addL l xs))))) := hide (by have h := Hown.out; rw [Htake.out] at h; exact h)
      have Hf3 : Hid (FS wr lo F M s2 (addL l xs)) := hide (by have h := Hf2.out; rw [Htake.out] at h; exact h)
      go_wp2_with fail
      refine (sort_any w.heap.size k cc O2 _ wr Hown2.out (by rw [List.length_map, Hn.out]; omega)).mono ?_
      rintro e w7 ⟨rfl, hown7, hgrow⟩
      have Hown7 := hide hown7
      have Hf7 := hide (Hf3.out.grow hgrow Hno.out)
      have Hr7 := hide (fr_grow Hr2.out hgrow (fun z hz => (Hown2.out.lt z hz).1))
      clear hown7 hgrow
      go_wp2_with fail
      go_ret
      exact ⟨O2, k, cc, s2, rfl, Hown7.out, Hn.out.symm, Hf7.out, Hr7.out, Hno.out⟩
end Go.Proofs.YtbppdalfcldodaaGreat
set_option maxRecDepth 100000
namespace Go.Proofs.YtbppdalfcldodaaGreat
open Go.RowKit Ex
set_option linter.unusedSimpArgs false
set_option linter.unusedVariables false

/- finished rows of numbers, in blocks of their own -/
def RowsIn (w : World) (lo : Nat) (H : List Nat) (vs : List Value) (ls : List (List Int)) : Prop :=
  vs.length = ls.length ∧ ∀ (j : Nat) v l, vs[j]? = some v → ls[j]? = some l → ∃ O n c, v = .slice O n c ∧ w.ownsRow lo 3 1 v n (ints l) ∧ ∀ z, v.ownBlock = some z → z ∉ H
section
variable {w w' : World} {lo : Nat} {H H' : List Nat} {vs : List Value} {ls : List (List Int)}
theorem RowsIn.nil : RowsIn w lo H [] [] := ⟨rfl, fun j v l h => by simp at h⟩
theorem RowsIn.keep (h : RowsIn w lo H vs ls) (hk : ∀ z, lo ≤ z → z < w.heap.size → z ∉ H → w'.heap[z]? = w.heap[z]? ∧ z ∉ H') : RowsIn w' lo H' vs ls :=
  ⟨h.1, fun j v l hv hl => by
    obtain ⟨O, n, c, e, h2, h3⟩ := h.2 j v l hv hl
    refine ⟨O, n, c, e, ⟨h2.1, ?_⟩, fun z hz => (hk z (h2.lt z hz).1 (h2.lt z hz).2 (h3 z hz)).2⟩
    rcases h2.2 with h4 | ⟨g, cap, cur, e4, h4, h5, h6⟩
    · exact .inl h4
    · have hz : v.ownBlock = some g := by rw [e4]; rfl
      exact .inr ⟨g, cap, cur, e4, h4, (hk g (h2.lt g hz).1 (h2.lt g hz).2 (h3 g hz)).1.trans h5, h6⟩⟩
theorem RowsIn.snoc {v : Value} {l : List Int} (h : RowsIn w lo H vs ls) (hv : ∃ O n c, v = .slice O n c ∧ w.ownsRow lo 3 1 v n (ints l) ∧ ∀ z, v.ownBlock = some z → z ∉ H) : RowsIn w lo H (vs ++ [v]) (ls ++ [l]) :=
  ⟨by simp [h.1], fun j u r hu hr => by
    by_cases hj : j < vs.length
    · rw [List.getElem?_append_left hj] at hu
      rw [List.getElem?_append_left (by rw [← h.1]; exact hj)] at hr
      exact h.2 j u r hu hr
    · rw [List.getElem?_append_right (by omega)] at hu
      rw [List.getElem?_append_right (by rw [← h.1]; omega), ← h.1] at hr
      have h0 : j - vs.length = 0 := by
        have := (List.getElem?_eq_some_iff.1 hu).1
        simp at this; omega
      rw [h0] at hu hr
      simp at hu hr
      subst hu; subst hr; exact hv⟩
theorem rr_of {n c : Nat} {O : Option Addr} (h : w.ownsRow lo 32 1 (.slice O n c) n vs) (hr : RowsIn w lo H vs ls) : Gr.RR w w.heap.size ⟨O, n, c⟩ ls := by
  have hl : vs.length = n := by have := h.1; simpa using this
  have hcap : n ≤ c ∧ c ≤ maxLen := by
    rcases h.2 with ⟨e, _⟩ | ⟨g, cap, cur, e, _, _, h1, h2, _⟩
    · injection e with e1 e2 e3; subst e2; subst e3; unfold maxLen; omega
    · injection e with e1 e2 e3; subst e3; exact ⟨h1, h2⟩
  refine ⟨by rw [← hr.1, hl], hcap.1, hcap.2, fun hn => ?_, fun e => ?_⟩
  · obtain ⟨g, cap, hv, hb, hlt⟩ := h.form hn
    have hA : O = some ⟨g, 0, none⟩ := by injection hv
    subst hA
    refine ⟨g, 0, rfl, hlt, fun k x hx => ?_⟩
    have hk : k < vs.length := by rw [hr.1]; exact (List.getElem?_eq_some_iff.1 hx).1
    obtain ⟨O2, n2, c2, e2, h2, _⟩ := hr.2 k _ x (List.getElem?_eq_getElem hk) hx
    have h4 := h.cells (g := g) rfl k _ (List.getElem?_eq_getElem hk)
    rw [e2] at h2 h4
    refine ⟨⟨O2, n2, c2⟩, ?_, Gr.own_ri h2⟩
    show w.cell? ⟨g, 0 + k, none⟩ = some (Value.slice O2 n2 c2)
    rw [Nat.zero_add]
    by_cases hk0 : k = 0
    · subst hk0; simpa [Addr.add] using h4
    · simpa [Addr.add, hk0] using h4
  · rcases h.2 with ⟨e1, _⟩ | ⟨g, cap, cur, e1, _⟩
    · injection e1
    · injection e1 with e1; simp only at e; rw [e] at e1; cases e1
end
def bsH (F M G : Nat) (s ow nx : SL) : List Nat := fsH F M s ++ (G :: (ow.own ++ nx.own))
structure BS (w : World) (lo F M G : Nat) (s ow nx : SL) (l : List Vx) (os : List Int) (ls : List (List Int)) : Prop where
  fs : FS w lo F M s l
  box : w.heap[G]? = some (.cells #[ow.v, nx.v] 35 (0, 0))
  orow : w.ownsRow lo 3 1 ow.v ow.n (ints os)
  nrow : ∃ vs, w.ownsRow lo 32 1 nx.v nx.n vs ∧ RowsIn w lo (bsH F M G s ow nx) vs ls
  nd : (bsH F M G s ow nx).Nodup
  low : ∀ k ∈ bsH F M G s ow nx, lo ≤ k ∧ k < w.heap.size
section
variable {w w' : World} {lo F M G : Nat} {s s' ow nx : SL} {l l' : List Vx} {os : List Int} {ls : List (List Int)}
theorem own_one (s : SL) : s.own = [] ∨ ∃ g, s.own = [g] := by
  obtain ⟨A, n, c⟩ := s
  cases A with
  | none => exact .inl rfl
  | some a => exact .inr ⟨a.block, rfl⟩
theorem FS.nodup (h : FS w lo F M s l) : (fsH F M s).Nodup := by
  unfold fsH
  rw [List.nodup_cons, List.nodup_cons]
  refine ⟨?_, fun hm => (h.fr M hm).2 rfl, ?_⟩
  · rw [List.mem_cons]
    rintro (e | hm)
    · exact h.fm e
    · exact (h.fr F hm).1 rfl
  · rcases own_one s with e | ⟨g, e⟩ <;> rw [e] <;> simp
theorem bs_fs (h : BS w lo F M G s ow nx l os ls) : ∀ k, k ∈ fsH F M s → k ≠ G ∧ k ∉ ow.own ∧ k ∉ nx.own := fun k hk => by
  have h2 := h.nd
  unfold bsH at h2
  rw [List.nodup_append] at h2
  have h3 := h2.2.2 k hk
  exact ⟨fun e => h3 k (by rw [e]; simp) rfl, fun hm => h3 k (by simp [hm]) rfl, fun hm => h3 k (by simp [hm]) rfl⟩
theorem bs_g (h : BS w lo F M G s ow nx l os ls) : G ∉ ow.own ∧ G ∉ nx.own ∧ ∀ k, k ∈ ow.own → k ∉ nx.own := by
  have h2 := h.nd
  unfold bsH at h2
  rw [List.nodup_append, List.nodup_cons, List.nodup_append] at h2
  obtain ⟨_, ⟨h3, _, _, h4⟩, _⟩ := h2
  rw [List.mem_append, not_or] at h3
  exact ⟨h3.1, h3.2, fun k h5 h6 => h4 k h5 k h6 rfl⟩
theorem bs_mem {k : Nat} : k ∈ bsH F M G s ow nx ↔ k ∈ fsH F M s ∨ k = G ∨ k ∈ ow.own ∨ k ∈ nx.own := by
  unfold bsH
  rw [List.mem_append, List.mem_cons, List.mem_append]
theorem bs_nodup (h1 : (fsH F M s).Nodup) (h2 : ∀ k, k ∈ fsH F M s → k ≠ G ∧ k ∉ ow.own ∧ k ∉ nx.own) (h3 : G ∉ ow.own ∧ G ∉ nx.own ∧ ∀ k, k ∈ ow.own → k ∉ nx.own) : (bsH F M G s ow nx).Nodup := by
  unfold bsH
  have ho : ∀ s : SL, s.own.Nodup := fun s => by rcases own_one s with e | ⟨g, e⟩ <;> rw [e] <;> simp
  rw [List.nodup_append, List.nodup_cons, List.nodup_append]
  refine ⟨h1, ⟨?_, ho _, ho _, fun a ha b hb e => h3.2.2 a ha (e ▸ hb)⟩, fun a ha b hb e => ?_⟩
  · rw [List.mem_append, not_or]; exact ⟨h3.1, h3.2.1⟩
  · subst e
    obtain ⟨h4, h5, h6⟩ := h2 a ha
    rw [List.mem_cons, List.mem_append] at hb
    rcases hb with e | hb | hb
    · exact h4 e
    · exact h5 hb
    · exact h6 hb
theorem own_keep {b e sz n : Nat} {v : Value} {xs : List Value} (h : w.ownsRow b e sz v n xs) (hk : ∀ k, v.ownBlock = some k → w'.heap[k]? = w.heap[k]?) : w'.ownsRow b e sz v n xs := by
  refine ⟨h.1, ?_⟩
  rcases h.2 with h4 | ⟨g, cap, cur, e, h4, h5, h6⟩
  · exact .inl h4
  · exact .inr ⟨g, cap, cur, e, h4, (hk g (by rw [e]; rfl)).trans h5, h6⟩
/- only what was found turns -/
theorem BS.found (h : BS w lo F M G s ow nx l os ls) (hf : FS w' lo F M s' l') (hr : Fr (fsH F M s) (fsH F M s') w w') (hlo : lo ≤ w.heap.size) : BS w' lo F M G s' ow nx l' os ls := by
  have hne := bs_fs h
  have hg := bs_g h
  have hin : ∀ k, k ∈ bsH F M G s ow nx → k ∉ fsH F M s → w'.heap[k]? = w.heap[k]? := fun k hk hn => hr.block k (h.low k hk).2 hn
  have hG : G ∉ fsH F M s := fun hm => (hne G hm).1 rfl
  obtain ⟨vs, hv1, hv2⟩ := h.nrow
  have hnew : ∀ k, k ∈ fsH F M s' → k ∈ fsH F M s ∨ w.heap.size ≤ k := hr.new
  refine ⟨hf, (hin G (bs_mem.2 (.inr (.inl rfl))) hG).trans h.box, own_keep h.orow (fun k hk => hin k (bs_mem.2 (.inr (.inr (.inl (own_mem.2 hk))))) (fun hm => (hne k hm).2.1 (own_mem.2 hk))),
    ⟨vs, own_keep hv1 (fun k hk => hin k (bs_mem.2 (.inr (.inr (.inr (own_mem.2 hk))))) (fun hm => (hne k hm).2.2 (own_mem.2 hk))), hv2.keep fun z hz1 hz2 hz3 => ⟨hr.block z hz2 (fun hm => hz3 (bs_mem.2 (.inl hm))), fun hm => ?_⟩⟩, bs_nodup hf.nodup (fun k hk => ?_) hg, fun k hk => ?_⟩
  · rcases bs_mem.1 hm with h1 | h1
    · rcases hnew z h1 with h2 | h2
      · exact hz3 (bs_mem.2 (.inl h2))
      · omega
    · exact hz3 (bs_mem.2 (.inr h1))
  · rcases hnew k hk with h2 | h2
    · exact hne k h2
    · refine ⟨fun e => ?_, fun hm => ?_, fun hm => ?_⟩
      · have := (h.low G (bs_mem.2 (.inr (.inl rfl)))).2; omega
      · have := (h.low k (bs_mem.2 (.inr (.inr (.inl hm))))).2; omega
      · have := (h.low k (bs_mem.2 (.inr (.inr (.inr hm))))).2; omega
  · rcases bs_mem.1 hk with h1 | h1
    · rcases hnew k h1 with h2 | h2
      · have h3 := (h.low k (bs_mem.2 (.inl h2))); have := hf.lt k h1; omega
      · have := hf.lt k h1; omega
    · have h3 := (h.low k (bs_mem.2 (.inr h1))); have := hr.size; omega
/- the owners grow by one -/
theorem BS.owner {w6 : World} {o : Obj} {gg cap : Nat} {q : Int} (h : BS w lo F M G s ow nx l os ls) (hgrow : (w.alloc o).drew.grownBy w6 ow.v.ownBlock) (hat : ow.v.ownBlock = some gg ∨ gg = w.heap.size + 1) (hlo : lo ≤ w.heap.size)
    (hrow : w6.ownsRow lo 3 1 (.slice (some ⟨gg, 0, none⟩) (ow.n + 1) cap) (ow.n + 1) (ints (os ++ [q]))) : BS (w6.setCell ⟨G, 0, none⟩ (.slice (some ⟨gg, 0, none⟩) (ow.n + 1) cap)) lo F M G s ⟨some ⟨gg, 0, none⟩, ow.n + 1, cap⟩ nx l (os ++ [q]) ls := by
  have hne := bs_fs h
  have hg := bs_g h
  have hzg : w.heap.size + 1 ≤ w6.heap.size := by have := hgrow.size; simpa using this
  have hGl := (h.low G (bs_mem.2 (.inr (.inl rfl)))).2
  have same : ∀ k, k < w.heap.size → k ∉ ow.own → w6.heap[k]? = w.heap[k]? := fun k hk hn => by
    rw [hgrow.block k (by simp; omega) (fun e => hn (own_mem.2 e.symm))]
    exact Below.heap_alloc w _ _ hk
  have hgo : ∀ k, k < w.heap.size → k ∉ ow.own → gg ≠ k := fun k hk hn e => by
    rcases hat with h1 | h1
    · exact hn (own_mem.2 (e ▸ h1))
    · omega
  have keep : ∀ k, k < w.heap.size → k ∉ ow.own → k ≠ G → (w6.setCell ⟨G, 0, none⟩ (.slice (some ⟨gg, 0, none⟩) (ow.n + 1) cap)).heap[k]? = w.heap[k]? := fun k hk hn hG => (Below.heap_setCell _ _ _ _ hG).trans (same k hk hn)
  have hgG : gg ≠ G := hgo G hGl hg.1
  have ownS : ∀ k, k ∈ (SL.mk (some ⟨gg, 0, none⟩) (ow.n + 1) cap).own → k = gg := fun k hk => by simpa [SL.own] using hk
  have hggl : lo ≤ gg ∧ gg < w6.heap.size := hrow.lt gg rfl
  obtain ⟨vs, hv1, hv2⟩ := h.nrow
  have hb6 : w6.heap[G]? = some (.cells #[ow.v, nx.v] 35 (0, 0)) := (same G hGl hg.1).trans h.box
  refine ⟨h.fs.keep fun k hk => keep k (h.low k (bs_mem.2 (.inl hk))).2 (hne k hk).2.1 (hne k hk).1, by rw [heap_setCell_same w6 G 0 _ 35 _ hb6]; rfl, own_keep hrow (fun k hk => ?_), ⟨vs, own_keep hv1 (fun k hk => ?_), hv2.keep fun z hz1 hz2 hz3 => ?_⟩, bs_nodup h.fs.nodup (fun k hk => ?_) ⟨?_, hg.2.1, fun k hk => ?_⟩, fun k hk => ?_⟩
  · have e : gg = k := by simpa [Value.ownBlock, SL.v] using hk
    subst e
    exact Below.heap_setCell _ _ _ _ hgG
  · have hk2 := own_mem.2 hk
    exact keep k (h.low k (bs_mem.2 (.inr (.inr (.inr hk2))))).2 (fun hm => hg.2.2 k hm hk2) (fun e => hg.2.1 (e ▸ hk2))
  · have h1 : z ∉ ow.own := fun hm => hz3 (bs_mem.2 (.inr (.inr (.inl hm))))
    refine ⟨keep z hz2 h1 (fun e => hz3 (bs_mem.2 (.inr (.inl e)))), fun hm => ?_⟩
    rcases bs_mem.1 hm with h2 | h2 | h2 | h2
    · exact hz3 (bs_mem.2 (.inl h2))
    · exact hz3 (bs_mem.2 (.inr (.inl h2)))
    · exact hgo z hz2 h1 (ownS z h2).symm
    · exact hz3 (bs_mem.2 (.inr (.inr (.inr h2))))
  · exact ⟨(hne k hk).1, fun hm => hgo k (h.low k (bs_mem.2 (.inl hk))).2 (hne k hk).2.1 (ownS k hm).symm, (hne k hk).2.2⟩
  · exact fun hm => hgG (ownS G hm).symm
  · intro hm
    have e := ownS k hk
    subst e
    exact hgo k (h.low k (bs_mem.2 (.inr (.inr (.inr hm))))).2 (fun h5 => hg.2.2 k h5 hm) rfl
  · have hz : (w6.setCell ⟨G, 0, none⟩ (.slice (some ⟨gg, 0, none⟩) (ow.n + 1) cap)).heap.size = w6.heap.size := by simp [World.setCell]
    rw [hz]
    rcases bs_mem.1 hk with h2 | h2 | h2 | h2
    · have := h.low k (bs_mem.2 (.inl h2)); omega
    · have := h.low k (bs_mem.2 (.inr (.inl h2))); omega
    · have := ownS k h2; omega
    · have := h.low k (bs_mem.2 (.inr (.inr (.inr h2)))); omega
/- the rows grow by one -/
theorem BS.next {w6 : World} {o : Obj} {gg cap : Nat} {v : Value} {r : List Int} {vs : List Value} (h : BS w lo F M G s ow nx l os ls) (hv1 : w.ownsRow lo 32 1 nx.v nx.n vs) (hv2 : RowsIn w lo (bsH F M G s ow nx) vs ls) (hv : ∃ O n c, v = .slice O n c ∧ w.ownsRow lo 3 1 v n (ints r) ∧ ∀ z, v.ownBlock = some z → z ∉ bsH F M G s ow nx)
    (hgrow : (w.alloc o).grownBy w6 nx.v.ownBlock) (hat : nx.v.ownBlock = some gg ∨ gg = w.heap.size + 1) (hlo : lo ≤ w.heap.size)
    (hrow : w6.ownsRow lo 32 1 (.slice (some ⟨gg, 0, none⟩) (nx.n + 1) cap) (nx.n + 1) (vs ++ [v])) : BS (w6.setCell ⟨G, 1, none⟩ (.slice (some ⟨gg, 0, none⟩) (nx.n + 1) cap)) lo F M G s ow ⟨some ⟨gg, 0, none⟩, nx.n + 1, cap⟩ l os (ls ++ [r]) := by
  have hne := bs_fs h
  have hg := bs_g h
  have hzg : w.heap.size + 1 ≤ w6.heap.size := by have := hgrow.size; simpa using this
  have hGl := (h.low G (bs_mem.2 (.inr (.inl rfl)))).2
  have same : ∀ k, k < w.heap.size → k ∉ nx.own → w6.heap[k]? = w.heap[k]? := fun k hk hn => by
    rw [hgrow.block k (by simp; omega) (fun e => hn (own_mem.2 e.symm))]
    exact Below.heap_alloc w _ _ hk
  have hgo : ∀ k, k < w.heap.size → k ∉ nx.own → gg ≠ k := fun k hk hn e => by
    rcases hat with h1 | h1
    · exact hn (own_mem.2 (e ▸ h1))
    · omega
  have keep : ∀ k, k < w.heap.size → k ∉ nx.own → k ≠ G → (w6.setCell ⟨G, 1, none⟩ (.slice (some ⟨gg, 0, none⟩) (nx.n + 1) cap)).heap[k]? = w.heap[k]? := fun k hk hn hG => (Below.heap_setCell _ _ _ _ hG).trans (same k hk hn)
  have hgG : gg ≠ G := hgo G hGl hg.2.1
  have ownS : ∀ k, k ∈ (SL.mk (some ⟨gg, 0, none⟩) (nx.n + 1) cap).own → k = gg := fun k hk => by simpa [SL.own] using hk
  have hggl : lo ≤ gg ∧ gg < w6.heap.size := hrow.lt gg rfl
  have hb6 : w6.heap[G]? = some (.cells #[ow.v, nx.v] 35 (0, 0)) := (same G hGl hg.2.1).trans h.box
  refine ⟨h.fs.keep fun k hk => keep k (h.low k (bs_mem.2 (.inl hk))).2 (hne k hk).2.2 (hne k hk).1, by rw [heap_setCell_same w6 G 1 _ 35 _ hb6]; rfl, own_keep h.orow (fun k hk => ?_), ⟨vs ++ [v], own_keep hrow (fun k hk => ?_), (hv2.snoc hv).keep fun z hz1 hz2 hz3 => ?_⟩, bs_nodup h.fs.nodup (fun k hk => ?_) ⟨hg.1, ?_, fun k hk => ?_⟩, fun k hk => ?_⟩
  · have hk2 := own_mem.2 hk
    exact keep k (h.low k (bs_mem.2 (.inr (.inr (.inl hk2))))).2 (hg.2.2 k hk2) (fun e => hg.1 (e ▸ hk2))
  · have e : gg = k := by simpa [Value.ownBlock, SL.v] using hk
    subst e
    exact Below.heap_setCell _ _ _ _ hgG
  · have h1 : z ∉ nx.own := fun hm => hz3 (bs_mem.2 (.inr (.inr (.inr hm))))
    refine ⟨keep z hz2 h1 (fun e => hz3 (bs_mem.2 (.inr (.inl e)))), fun hm => ?_⟩
    rcases bs_mem.1 hm with h2 | h2 | h2 | h2
    · exact hz3 (bs_mem.2 (.inl h2))
    · exact hz3 (bs_mem.2 (.inr (.inl h2)))
    · exact hz3 (bs_mem.2 (.inr (.inr (.inl h2))))
    · exact hgo z hz2 h1 (ownS z h2).symm
  · exact ⟨(hne k hk).1, (hne k hk).2.1, fun hm => hgo k (h.low k (bs_mem.2 (.inl hk))).2 (hne k hk).2.2 (ownS k hm).symm⟩
  · exact fun hm => hgG (ownS G hm).symm
  · intro hm
    have e := ownS k hm
    subst e
    exact hgo k (h.low k (bs_mem.2 (.inr (.inr (.inl hk))))).2 (hg.2.2 k hk) rfl
  · have hz : (w6.setCell ⟨G, 1, none⟩ (.slice (some ⟨gg, 0, none⟩) (nx.n + 1) cap)).heap.size = w6.heap.size := by simp [World.setCell]
    rw [hz]
    rcases bs_mem.1 hk with h2 | h2 | h2 | h2
    · have := h.low k (bs_mem.2 (.inl h2)); omega
    · have := h.low k (bs_mem.2 (.inr (.inl h2))); omega
    · have := h.low k (bs_mem.2 (.inr (.inr (.inl h2)))); omega
    · have := ownS k h2; omega
theorem owner_step {w2 w6 : World} {o : Obj} {gg cap : Nat} {q : Int} {v : Value} {r : List Int} (h : BS w lo F M G s ow nx l os ls) (hgrow : (w.alloc o).drew.grownBy w6 ow.v.ownBlock) (hat : ow.v.ownBlock = some gg ∨ gg = w.heap.size + 1) (hlo : lo ≤ w.heap.size)
    (hrow : w6.ownsRow lo 3 1 (.slice (some ⟨gg, 0, none⟩) (ow.n + 1) cap) (ow.n + 1) (ints (os ++ [q]))) (hnew : ∃ O n c, v = .slice O n c ∧ w.ownsRow lo 3 1 v n (ints r) ∧ ∀ z, v.ownBlock = some z → z ∉ bsH F M G s ow nx) (hbl : Below lo w2 w) :
    (∃ O n c, v = .slice O n c ∧ (w6.setCell ⟨G, 0, none⟩ (.slice (some ⟨gg, 0, none⟩) (ow.n + 1) cap)).ownsRow lo 3 1 v n (ints r) ∧ ∀ z, v.ownBlock = some z → z ∉ bsH F M G s ⟨some ⟨gg, 0, none⟩, ow.n + 1, cap⟩ nx) ∧
      BS (w6.setCell ⟨G, 0, none⟩ (.slice (some ⟨gg, 0, none⟩) (ow.n + 1) cap)) lo F M G s ⟨some ⟨gg, 0, none⟩, ow.n + 1, cap⟩ nx l (os ++ [q]) ls ∧ Below lo w2 (w6.setCell ⟨G, 0, none⟩ (.slice (some ⟨gg, 0, none⟩) (ow.n + 1) cap)) := by
  obtain ⟨O, n, c, e, h2, h3⟩ := hnew
  have hGl := h.low G (bs_mem.2 (.inr (.inl rfl)))
  have hob : ∀ z, ow.v.ownBlock = some z → lo ≤ z := fun z hz => (h.orow.lt z hz).1
  have hb6 : Below lo w2 w6 := by
    have h5 : Below lo w2 (w.alloc o).drew := by
      have h6 := hbl.alloc (by have := hbl.size; omega) o
      exact ⟨h6.os, h6.tape, h6.output, h6.size, h6.block⟩
    exact h5.grown hgrow (by simp; omega) hob
  refine ⟨⟨O, n, c, e, own_keep h2 (fun z hz => ?_), fun z hz hm => ?_⟩, h.owner hgrow hat hlo hrow, hb6.trans ⟨rfl, rfl, rfl, by simp [World.setCell], fun k hk => Below.heap_setCell _ _ _ _ (by show k ≠ G; omega)⟩⟩
  · have hn := h3 z hz
    have hzl := (h2.lt z hz).2
    rw [Below.heap_setCell _ _ _ _ (fun e => hn (bs_mem.2 (.inr (.inl e)))), hgrow.block z (by simp; omega) (fun e => hn (bs_mem.2 (.inr (.inr (.inl (own_mem.2 e.symm))))))]
    exact Below.heap_alloc w _ _ hzl
  · have hn := h3 z hz
    have hzl := (h2.lt z hz).2
    rcases bs_mem.1 hm with h4 | h4 | h4 | h4
    · exact hn (bs_mem.2 (.inl h4))
    · exact hn (bs_mem.2 (.inr (.inl h4)))
    · have e2 : z = gg := by simpa [SL.own] using h4
      subst e2
      rcases hat with h5 | h5
      · exact hn (bs_mem.2 (.inr (.inr (.inl (own_mem.2 h5)))))
      · omega
    · exact hn (bs_mem.2 (.inr (.inr (.inr h4))))
theorem next_step {w2 w6 : World} {o : Obj} {gg cap : Nat} {v : Value} {r : List Int} {vs : List Value} (h : BS w lo F M G s ow nx l os ls) (hv1 : w.ownsRow lo 32 1 nx.v nx.n vs) (hv2 : RowsIn w lo (bsH F M G s ow nx) vs ls) (hv : ∃ O n c, v = .slice O n c ∧ w.ownsRow lo 3 1 v n (ints r) ∧ ∀ z, v.ownBlock = some z → z ∉ bsH F M G s ow nx)
    (hgrow : (w.alloc o).grownBy w6 nx.v.ownBlock) (hat : nx.v.ownBlock = some gg ∨ gg = w.heap.size + 1) (hlo : lo ≤ w.heap.size)
    (hrow : w6.ownsRow lo 32 1 (.slice (some ⟨gg, 0, none⟩) (nx.n + 1) cap) (nx.n + 1) (vs ++ [v])) (hbl : Below lo w2 w) :
    BS (w6.setCell ⟨G, 1, none⟩ (.slice (some ⟨gg, 0, none⟩) (nx.n + 1) cap)) lo F M G s ow ⟨some ⟨gg, 0, none⟩, nx.n + 1, cap⟩ l os (ls ++ [r]) ∧ Below lo w2 (w6.setCell ⟨G, 1, none⟩ (.slice (some ⟨gg, 0, none⟩) (nx.n + 1) cap)) := by
  have hGl := h.low G (bs_mem.2 (.inr (.inl rfl)))
  have hb6 : Below lo w2 w6 := (hbl.alloc (by have := hbl.size; omega) o).grown hgrow (by simp; omega) (fun z hz => (hv1.lt z hz).1)
  exact ⟨h.next hv1 hv2 hv hgrow hat hlo hrow, hb6.trans ⟨rfl, rfl, rfl, by simp [World.setCell], fun k hk => Below.heap_setCell _ _ _ _ (by show k ≠ G; omega)⟩⟩
/- at the start -/
theorem BS.start (hf : FS w lo F M s l) (hlo : lo ≤ w.heap.size) (hlow : ∀ k ∈ fsH F M s, lo ≤ k) : BS (w.alloc (.cells #[.slice none 0 0, .slice none 0 0] 35)) lo F M w.heap.size s ⟨none, 0, 0⟩ ⟨none, 0, 0⟩ l [] [] := by
  have hf1 := hf.below ((Below.refl _ _).alloc (Nat.le_refl _) (.cells #[.slice none 0 0, .slice none 0 0] 35))
  refine ⟨hf1, heap_alloc_new w _, World.ownsRow_nil _ _ _ _, ⟨[], World.ownsRow_nil _ _ _ _, RowsIn.nil⟩, bs_nodup hf.nodup (fun k hk => ⟨fun e => ?_, by simp [SL.own], by simp [SL.own]⟩) ⟨by simp [SL.own], by simp [SL.own], fun k hk => by simp [SL.own] at hk⟩, fun k hk => ?_⟩
  · have := hf.lt k hk; omega
  · simp only [World.size_alloc]
    rcases bs_mem.1 hk with h2 | h2 | h2 | h2
    · have := hf.lt k h2; have := hlow k h2; omega
    · omega
    · simp [SL.own] at h2
    · simp [SL.own] at h2
theorem BS.cells (h : BS w lo F M G s ow nx l os ls) : w.cell? ⟨G, 0, none⟩ = some ow.v ∧ w.cell? ⟨G, 1, none⟩ = some nx.v ∧ w.frozen? ⟨G, 0, none⟩ = false ∧ w.frozen? ⟨G, 1, none⟩ = false := ⟨by rw [Lib.cell_of_heap h.box]; rfl, by rw [Lib.cell_of_heap h.box]; rfl, frozen_of_row w G 0 _ 35 h.box, frozen_of_row w G 1 _ 35 h.box⟩
end
end Go.Proofs.YtbppdalfcldodaaGreat
