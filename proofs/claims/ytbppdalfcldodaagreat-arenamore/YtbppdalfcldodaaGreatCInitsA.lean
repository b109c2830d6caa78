/- ChoiceInits: data, and a map of marks. -/
import Derived.Test.YtbppdalfcldodaaGreatCAwake
import Derived.Test.YtbppdalfcldodaaGreatGLaw
import Derived.Maps.OwnOps
import Derived.Maps.OwnSet
namespace Go.Proofs.YtbppdalfcldodaaGreat
open Go.RowKit Ex Go.WideMaps Go.Maps
set_option linter.unusedSimpArgs false
set_option linter.unusedVariables false

/- a map of marks: 1 at each of xs -/
def OneIs (D : DataW Unit) (xs : List Int) : Prop := ∀ k : Int, D.atKey (.int .i64 k) (.lit (.int .i64 0)) = .lit (.int .i64 (if k ∈ xs then 1 else 0))
theorem OneIs.start : OneIs (.map []) [] := fun k => by simp [DataW.atKey]
theorem OneIs.put {D : DataW Unit} {xs : List Int} (h : OneIs D xs) (hD : IsMap D) (x : Int) : OneIs (D.put (.int .i64 x) (.lit (.int .i64 1))) (xs ++ [x]) := by
  intro k
  by_cases e : k = x
  · subst e
    rw [atKey_put_same hD (by simp [WideAt.IsKeyLit])]; simp
  · rw [atKey_put_other (fun hh => e (by injection hh))]
    rw [h k]; simp [e]
theorem law3 : Keyed Tryz.prog 3 := int_keyed Tryz.underlying3
/- a row of numbers beyond lo -/
def RIF (w : World) (lo : Nat) (O : Option Addr) (n : Nat) (xs : List Int) : Prop := xs.length = n ∧ (0 < n → ∃ b off, O = some ⟨b, off, none⟩ ∧ lo ≤ b ∧ b < w.heap.size ∧ ∀ k x, xs[k]? = some x → w.cell? ⟨b, off + k, none⟩ = some (.int .i64 x))
theorem rif_own {w : World} {base n c : Nat} {O : Option Addr} {xs : List Int} (h : w.ownsRow base 3 1 (.slice O n c) n (ints xs)) : RIF w base O n xs := by
  have hri := Dom.own_ri h
  refine ⟨hri.1, fun hn => ?_⟩
  obtain ⟨b, off, e, hb, hc⟩ := hri.2 hn
  obtain ⟨g, cap, hv, hbg, _⟩ := h.form hn
  injection hv with hv
  rw [hv] at e
  injection e with e
  injection e with e1 e2
  subst e1; subst e2
  exact ⟨g, 0, hv, hbg, hb, hc⟩
theorem RIF.onl {w w' : World} {lo n G : Nat} {O : Option Addr} {xs : List Int} (h : RIF w lo O n xs) (ho : Onl G w w') (hG : G < lo) : RIF w' lo O n xs := by
  refine ⟨h.1, fun hn => ?_⟩
  obtain ⟨b, off, e, hl, hb, hc⟩ := h.2 hn
  exact ⟨b, off, e, hl, Nat.lt_of_lt_of_le hb ho.size, fun k x hx => (ho.cell (by exact hb) (by show b ≠ G; omega)).trans (hc k x hx)⟩
theorem RIF.at_ {w : World} {lo n k : Nat} {O : Option Addr} {xs : List Int} (h : RIF w lo O n xs) (hk : k < n) : ∃ b off x, O = some ⟨b, off, none⟩ ∧ b < w.heap.size ∧ xs[k]? = some x ∧ w.cell? ⟨b, off + k, none⟩ = some (.int .i64 x) := by
  obtain ⟨b, off, e, hl, hb, hc⟩ := h.2 (by omega)
  have hkl : k < xs.length := by rw [h.1]; exact hk
  exact ⟨b, off, xs[k], e, hb, List.getElem?_eq_getElem hkl, hc k _ (List.getElem?_eq_getElem hkl)⟩
theorem below_onl {g : Nat} {w w' : World} (h : Below w.heap.size w w') : Onl g w w' := ⟨h.os, h.tape, h.output, h.size, fun k hk _ => h.block k hk⟩
theorem grown_onl {g : Nat} {w w' : World} (h : w.grownBy w' (some g)) : Onl g w w' := ⟨h.os, h.tape, h.output, h.size, fun k hk hne => h.block k hk (fun e => hne (by injection e))⟩
theorem onl_map {k e : TypeId} {w w' : World} {b n : Nat} {D : DataW Unit} (h : w.ownsMap Tryz.prog k (plainElem Tryz.prog e) b n D) (hb : Below w.heap.size w w') : w'.ownsMap Tryz.prog k (plainElem Tryz.prog e) b n D := Dom.owns_below h hb (Dom.owns_lt h)
/- ChoiceInits, as data -/
theorem initE_lt (m : MT) : (initEnvL m).Pairwise (· < ·) := by
  unfold initEnvL
  split
  · exact upTo_lt
  · exact List.Pairwise.nil
theorem initS_lt (m : MT) (p : Int) : (initSysL m p).Pairwise (· < ·) := by
  unfold initSysL
  split
  · exact upTo_lt
  · exact List.Pairwise.nil
theorem initE_len (m : MT) : (initEnvL m).length ≤ 512 := by
  unfold initEnvL
  split
  · have := upTo_len (fun p => pickB m.vars p && trueE m.vars m.ie p p) (totN m)
    have h2 := (Dom.totL_bd m.vars).2
    unfold totN at this ⊢
    omega
  · simp
theorem initS_len (m : MT) (p : Int) : (initSysL m p).length ≤ 512 := by
  unfold initSysL
  split
  · have := upTo_len (fun s => (Dom.partL m.vars s true == p) && trueE m.vars m.is s s) (totN m)
    have h2 := (Dom.totL_bd m.vars).2
    unfold totN at this ⊢
    omega
  · simp
theorem lt_take {xs : List Int} (h : xs.Pairwise (· < ·)) {k : Nat} {x : Int} (hk : xs[k]? = some x) {y : Int} (hy : y ∈ xs.take k) : y < x := by
  obtain ⟨j, hj⟩ := List.mem_iff_getElem?.1 hy
  obtain ⟨hk1, rfl⟩ := List.getElem?_eq_some_iff.1 hk
  have hjk : j < k := by
    have := (List.getElem?_eq_some_iff.1 hj).1
    rw [List.length_take] at this; omega
  rw [List.getElem?_take_of_lt hjk] at hj
  obtain ⟨hj1, rfl⟩ := List.getElem?_eq_some_iff.1 hj
  exact (List.pairwise_iff_getElem.1 h) j k hj1 hk1 hjk
theorem initE_pick {m : MT} {p : Int} (hm : modE m = 0) (h : p ∈ initEnvL m) : Dom.partL m.vars p true = p ∧ pickB m.vars p = true := by
  have hM : Dom.mayL m.vars = 0 := ((modE_iff _).1 hm).1
  obtain ⟨⟨h0, h1⟩, h2, _⟩ := (initE_mem hm).1 h
  exact ⟨h2, (pick_iff hM h0 h1).2 h2⟩
def marksL (m : MT) (k : Nat) : List Int := ((initEnvL m).take k).flatMap (initSysL m)
theorem marks_snoc {m : MT} {k : Nat} {p : Int} (h : (initEnvL m)[k]? = some p) : marksL m (k + 1) = marksL m k ++ initSysL m p := by
  unfold marksL
  rw [List.take_add_one, h]
  simp
theorem inits_new {m : MT} {k j : Nat} {p s : Int} (hm : modE m = 0) (hk : (initEnvL m)[k]? = some p) (hj : (initSysL m p)[j]? = some s) : s ∉ marksL m k ++ (initSysL m p).take j := by
  intro h
  rcases List.mem_append.1 h with h | h
  · obtain ⟨p', hp', hs⟩ := List.mem_flatMap.1 h
    have e1 := ((initS_mem hm (initE_pick hm (List.mem_of_getElem? hk)).2).1 (List.mem_of_getElem? hj)).2.1
    have e2 := ((initS_mem hm (initE_pick hm (List.mem_of_mem_take hp')).2).1 hs).2.1
    have := lt_take (initE_lt m) hk hp'
    omega
  · have := lt_take (initS_lt m p) hj h
    omega
theorem inits_part {m : MT} {p s : Int} (hm : modE m = 0) (hp : p ∈ initEnvL m) (hs : s ∈ initSysL m p) : Dom.partL m.vars s true = p := ((initS_mem hm (initE_pick hm hp).2).1 hs).2.1
theorem inits_all {m : MT} {s : Int} (hm : modE m = 0) (h0 : 0 ≤ s) (h1 : s < Dom.totL m.vars) : s ∈ (initEnvL m).flatMap (initSysL m) ↔ trueE m.vars m.ie (Dom.partL m.vars s true) (Dom.partL m.vars s true) = true ∧ trueE m.vars m.is s s = true := by
  have hM : Dom.mayL m.vars = 0 := ((modE_iff _).1 hm).1
  rw [List.mem_flatMap]
  constructor
  · rintro ⟨p, hp, hs⟩
    obtain ⟨_, e, h2⟩ := (initS_mem hm (initE_pick hm hp).2).1 hs
    rw [e]
    exact ⟨((initE_mem hm).1 hp).2.2, h2⟩
  · rintro ⟨h2, h3⟩
    obtain ⟨p0, p1⟩ := part_rng true hM h0 h1
    have hp : Dom.partL m.vars s true ∈ initEnvL m := (initE_mem hm).2 ⟨⟨p0, p1⟩, Dom.part_idem true hM h0 h1, h2⟩
    exact ⟨_, hp, (initS_mem hm (initE_pick hm hp).2).2 ⟨⟨h0, h1⟩, rfl, h3⟩⟩
end Go.Proofs.YtbppdalfcldodaaGreat
