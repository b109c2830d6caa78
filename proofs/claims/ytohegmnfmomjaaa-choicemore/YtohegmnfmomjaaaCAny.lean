/- The walk of ChoiceAny. -/
import Derived.Test.YtohegmnfmomjaaaCAnyA
import Derived.Test.YtohegmnfmomjaaaCInitsA
import Derived.Test.YtohegmnfmomjaaaCGuards
import Derived.Test.YtohegmnfmomjaaaGCnt
set_option maxRecDepth 100000
namespace Go.Proofs.Ytohegmnfmomjaaa
open Go.RowKit Ex
open Go.Sort (grow)
set_option linter.unusedSimpArgs false
set_option linter.unusedVariables false

/- a command's box -/
def cV (op n : Int) (A : Option Addr) (len cap : Nat) (O : Option Addr) (k c : Nat) : Nat → Value
  | 0 => .int .i64 op
  | 1 => .int .i64 n
  | 2 => .slice A len cap
  | _ => .slice O k c
theorem cV_new (w : World) : (w.alloc (.cells #[.int .i64 0, .int .i64 0, .slice none 0 0, .slice none 0 0] 31)).rowIs w.heap.size 31 4 (cV 0 0 none 0 0 none 0 0) :=
  World.rowIs_alloc w _ 31 _ (fun i hi => by
    have h : i = 0 ∨ i = 1 ∨ i = 2 ∨ i = 3 := by simp at hi; omega
    rcases h with rfl | rfl | rfl | rfl <;> rfl)
theorem cV_box {w : World} {g : Nat} {op n : Int} {A : Option Addr} {len cap : Nat} {O : Option Addr} {k c : Nat} (h : w.rowIs g 31 4 (cV op n A len cap O k c)) : BoxC w g op n A len cap O k c :=
  ⟨h.cell (i := 0) (by omega), h.cell (i := 1) (by omega), h.cell (i := 2) (by omega), h.cell (i := 3) (by omega)⟩
theorem two_app {w w' : World} {base e size ns g : Nat} {ve vs : Value} {ys : List Value} (hs : w.ownsRow base e size vs ns ys) (hap : ve.ownBlock = none ∨ ve.ownBlock ≠ vs.ownBlock) (hg : w.grownBy w' ve.ownBlock) (hat : ve.ownBlock = some g ∨ g = w.heap.size) :
    w'.ownsRow base e size vs ns ys ∧ some g ≠ vs.ownBlock := by
  refine ⟨hs.kept hg ?_, fun h => ?_⟩
  · cases hv : vs.ownBlock with
    | none => exact .inl rfl
    | some b =>
      right
      rcases hap with h | h
      · rw [h]; simp
      · rw [hv] at h; exact fun e => h e.symm
  · rcases hat with h1 | h1
    · rcases hap with h2 | h2
      · rw [h1] at h2; cases h2
      · rw [h1] at h2; exact h2 h
    · have := (hs.lt g h.symm).2
      omega
theorem rows6 {w w' : World} {o : Obj} {g t n : Nat} {f : Nat → Value} {row : Option Nat} (h : w.rowIs g t n f) (hg : (w.alloc o).grownBy w' row) (hr : ∀ k, row = some k → g < k) : w'.rowIs g t n f := by
  have hl := h.lt
  exact (h.alloc o).of_block (hg.block g (by simp; omega) (fun e => by have := hr g e.symm; omega))
theorem own_at {w w' : World} {base e sz n : Nat} {v : Value} {xs : List Value} (h : w.ownsRow base e sz v n xs) (hk : ∀ b, v.ownBlock = some b → w'.heap[b]? = w.heap[b]?) : w'.ownsRow base e sz v n xs := by
  refine ⟨h.1, ?_⟩
  rcases h.2 with ⟨e1, e2⟩ | ⟨g, cap, cur, e1, e2, e3, e4⟩
  · exact .inl ⟨e1, e2⟩
  · exact .inr ⟨g, cap, cur, e1, e2, (hk g (by rw [e1]; rfl)).trans e3, e4⟩
theorem blk_lt {w : World} {g : Nat} {o : Obj} (h : w.heap[g]? = some o) : g < w.heap.size := (Array.getElem?_eq_some_iff.1 h).1
theorem one_sets {w : World} {g : Nat} {O : Option Addr} {n c : Nat} {ss : List ST} (hg : w.heap[g]? = some (.cells #[.int .i64 2, .int .i64 1, .slice none 0 0, .slice O n c] 31 (0, 0))) (h : Rows SetAt 5 w w.heap.size ⟨O, n, c⟩ ss) : Rows CmdAt 4 w w.heap.size ⟨some ⟨g, 0, none⟩, 1, 1⟩ [⟨.mk 2 1 [], ss⟩] := by
  refine ⟨rfl, Nat.le_refl _, by show 1 ≤ maxLen; unfold maxLen; omega, fun _ => ⟨g, 0, rfl, blk_lt hg, fun k x hx => ?_⟩, fun h => by cases h⟩
  obtain ⟨hk, e⟩ := List.getElem?_eq_some_iff.1 hx
  simp at hk
  subst hk
  simp at e
  subst e
  exact ⟨⟨⟨2, 1, none, 0, 0⟩, ⟨blk hg (i := 0) rfl, blk hg (i := 1) rfl, blk hg (i := 2) rfl⟩, leaf_ex _ _ _ _⟩, ⟨O, n, c⟩, blk hg (i := 3) rfl, h⟩
theorem free_rows {w : World} {base n c : Nat} {O : Option Addr} {ks : List (List Value)} {ss : List ST} (h : w.ownsRow base 50 5 (.slice O n c) n ks.flatten) (hc : Chunk 5 FreeC ks ss) : Rows SetAt 5 w w.heap.size ⟨O, n, c⟩ ss :=
  own_rows (by omega) h hc (fun b o ch a _ h1 h2 => set_back ⟨⟨0, 0, none, 0, 0⟩, h1.1, by rw [h1.2]; exact ex_zero _ _⟩ h2)
theorem any_rm {w : World} {B base ga gb ne ce ns cs : Nat} {x : M8} {m : MT} {Oe Os : Option Addr} {kse kss : List (List Value)} {l : List Dom.V} (hrm : RM w B x m) (hB : B ≤ w.heap.size) (hga : w.heap[ga]? = some (.cells #[.int .i64 2, .int .i64 1, .slice none 0 0, .slice Oe ne ce] 31 (0, 0))) (hgb : w.heap[gb]? = some (.cells #[.int .i64 2, .int .i64 1, .slice none 0 0, .slice Os ns cs] 31 (0, 0)))
    (hoe : w.ownsRow base 50 5 (.slice Oe ne ce) ne kse.flatten) (hche : Chunk 5 FreeC kse (anyGo true 0 l)) (hos : w.ownsRow base 50 5 (.slice Os ns cs) ns kss.flatten) (hchs : Chunk 5 FreeC kss (anyGo false 0 l)) :
    RM w w.heap.size { x with env := ⟨some ⟨ga, 0, none⟩, 1, 1⟩, sys := ⟨some ⟨gb, 0, none⟩, 1, 1⟩ } { m with env := [⟨.mk 2 1 [], anyGo true 0 l⟩], sys := [⟨.mk 2 1 [], anyGo false 0 l⟩] } :=
  rm_both (hrm.more hB) (one_sets hga (free_rows hoe hche)) (one_sets hgb (free_rows hos hchs))
def M2T (m : MT) : MT := { m with env := [⟨.mk 2 1 [], anyGo true 0 m.vars⟩], sys := [⟨.mk 2 1 [], anyGo false 0 m.vars⟩] }
def M3T (m : MT) : MT := { m with env := [⟨.mk 2 1 [], anyGo true 0 m.vars⟩], sys := [⟨.mk 2 1 [], anyGo false 0 m.vars⟩], ie := .mk 2 1 [], is := .mk 2 1 [] }
theorem any_data {m : MT} {q pk : Int} (hm : modE m = 0) (q0 : 0 ≤ q) (q1 : q < Dom.totL m.vars) (r0 : 0 ≤ pk) (r1 : pk < Dom.totL m.vars) :
    envL { m with env := [⟨.mk 2 1 [], anyGo true 0 m.vars⟩], sys := [⟨.mk 2 1 [], anyGo false 0 m.vars⟩] } q = initEnvL { m with env := [⟨.mk 2 1 [], anyGo true 0 m.vars⟩], sys := [⟨.mk 2 1 [], anyGo false 0 m.vars⟩], ie := .mk 2 1 [], is := .mk 2 1 [] } ∧
    sysL { m with env := [⟨.mk 2 1 [], anyGo true 0 m.vars⟩], sys := [⟨.mk 2 1 [], anyGo false 0 m.vars⟩] } q (Dom.partL m.vars pk true) = initSysL { m with env := [⟨.mk 2 1 [], anyGo true 0 m.vars⟩], sys := [⟨.mk 2 1 [], anyGo false 0 m.vars⟩], ie := .mk 2 1 [], is := .mk 2 1 [] } (Dom.partL m.vars pk true) ∧
    (((envL { m with env := [⟨.mk 2 1 [], anyGo true 0 m.vars⟩], sys := [⟨.mk 2 1 [], anyGo false 0 m.vars⟩] } q).length : Nat) : Int) * (((sysL { m with env := [⟨.mk 2 1 [], anyGo true 0 m.vars⟩], sys := [⟨.mk 2 1 [], anyGo false 0 m.vars⟩] } q (Dom.partL m.vars pk true)).length : Nat) : Int) = Dom.totL m.vars := by
  have hM : Dom.mayL m.vars = 0 := mod_vars hm
  obtain ⟨h2, h3⟩ := any_mod hm
  obtain ⟨p0, p1⟩ := part_rng true hM r0 r1
  have pp := Dom.part_idem true hM r0 r1
  have e1 := any_envL (st := q) h2 rfl q0 q1 (any_any true m.vars 0) (fun k v hv he => by have := any_in true m.vars 0 k v hv he; rwa [Nat.zero_add] at this)
  have e2 := any_sysL (st := q) (p := Dom.partL m.vars pk true) h2 rfl q0 q1 p0 p1 pp (any_any false m.vars 0) (fun k v hv he => by have := any_in false m.vars 0 k v hv he; rwa [Nat.zero_add] at this)
  have e3 := yes_initE h3 rfl
  have e4 := yes_initS (p := Dom.partL m.vars pk true) h3 rfl p0 p1 pp
  refine ⟨e1.trans e3.symm, e2.trans e4.symm, ?_⟩
  have hpr := picks_prod hM p0 p1 pp
  have htb := (Dom.totL_bd m.vars).1
  rw [e1, e2]
  unfold cnt at hpr
  unfold totN
  simp only
  rw [← Int.natCast_mul, hpr]
  omega
section
variable {W w' : World} {B : Nat}
theorem f_dV {x : M8} {m : MT} {st : Int} (hB : B ≤ W.heap.size) (Hrm : Hid (RM W B x m)) (hs : Hid (Below W.heap.size W w')) :
    Calls Try.prog 14 #[.agg x.cells, .int .i64 st] w' fun e w'' => ∃ O c, e = .returned (.slice O (envL m st).length c) ∧ Hid (RIF w'' W.heap.size O (envL m st).length (envL m st)) ∧ Hid (Below w'.heap.size w' w'') ∧ Hid (Below W.heap.size W w'') :=
  (denv_any B x m st w' (Nat.le_trans hB hs.out.size) (Hrm.out.below (hs.out.mono hB))).mono fun e w'' ⟨O, k, c, he, hown, hk, hb⟩ => by
    subst hk
    exact ⟨O, c, he, hide (rif_own (own_base0 hown hs.out.size)), hide hb, hide (hs.out.trans (hb.mono hs.out.size))⟩
theorem f_dY {x : M8} {m : MT} {st p : Int} (hB : B ≤ W.heap.size) (Hrm : Hid (RM W B x m)) (hs : Hid (Below W.heap.size W w')) :
    Calls Try.prog 15 #[.agg x.cells, .int .i64 st, .int .i64 p] w' fun e w'' => ∃ O c, e = .returned (.slice O (sysL m st p).length c) ∧ Hid (RIF w'' W.heap.size O (sysL m st p).length (sysL m st p)) ∧ Hid (Below w'.heap.size w' w'') ∧ Hid (Below W.heap.size W w'') :=
  (dsys_any B x m st p w' (Nat.le_trans hB hs.out.size) (Hrm.out.below (hs.out.mono hB))).mono fun e w'' ⟨O, k, c, he, hown, hk, hb⟩ => by
    subst hk
    exact ⟨O, c, he, hide (rif_own (own_base0 hown hs.out.size)), hide hb, hide (hs.out.trans (hb.mono hs.out.size))⟩
theorem f_dE {x : M8} {m : MT} (hB : B ≤ W.heap.size) (Hrm : Hid (RM W B x m)) (hs : Hid (Below W.heap.size W w')) :
    Calls Try.prog 18 #[.agg x.cells] w' fun e w'' => ∃ O c, e = .returned (.slice O (initEnvL m).length c) ∧ Hid (RIF w'' W.heap.size O (initEnvL m).length (initEnvL m)) ∧ Hid (Below w'.heap.size w' w'') ∧ Hid (Below W.heap.size W w'') :=
  (dinitE_any B x m w' (Nat.le_trans hB hs.out.size) (Hrm.out.below (hs.out.mono hB))).mono fun e w'' ⟨O, k, c, he, hown, hk, hb⟩ => by
    subst hk
    exact ⟨O, c, he, hide (rif_own (own_base0 hown hs.out.size)), hide hb, hide (hs.out.trans (hb.mono hs.out.size))⟩
theorem f_dS {x : M8} {m : MT} {p : Int} (hB : B ≤ W.heap.size) (Hrm : Hid (RM W B x m)) (hs : Hid (Below W.heap.size W w')) :
    Calls Try.prog 19 #[.agg x.cells, .int .i64 p] w' fun e w'' => ∃ O c, e = .returned (.slice O (initSysL m p).length c) ∧ Hid (RIF w'' W.heap.size O (initSysL m p).length (initSysL m p)) ∧ Hid (Below w'.heap.size w' w'') ∧ Hid (Below W.heap.size W w'') :=
  (dinitS_any B x m p w' (Nat.le_trans hB hs.out.size) (Hrm.out.below (hs.out.mono hB))).mono fun e w'' ⟨O, k, c, he, hown, hk, hb⟩ => by
    subst hk
    exact ⟨O, c, he, hide (rif_own (own_base0 hown hs.out.size)), hide hb, hide (hs.out.trans (hb.mono hs.out.size))⟩
end
theorem any_len512 {m : MT} (q pk : Int) : (envL m q).length ≤ 512 ∧ (sysL m q pk).length ≤ 512 := by
  have h2 := (Dom.totL_bd m.vars).2
  constructor
  · unfold envL
    split
    · refine Nat.le_trans (upTo_len _ _) ?_
      unfold totN; omega
    · simp
  · unfold sysL
    split
    · refine Nat.le_trans (upTo_len _ _) ?_
      unfold totN; omega
    · simp
theorem row_yes {w : World} {g : Nat} {x : M8} (h : w.rowIs g 28 12 (mV x)) : ((((((w.setCell ⟨g, 1, none⟩ (.int .i64 2)).setCell ⟨g, 2, none⟩ (.int .i64 1)).setCell ⟨g, 3, none⟩ (.slice none 0 0)).setCell ⟨g, 4, none⟩ (.int .i64 2)).setCell ⟨g, 5, none⟩ (.int .i64 1)).setCell ⟨g, 6, none⟩ (.slice none 0 0)).rowIs g 28 12 (mV { x with ie := ⟨2, 1, none, 0, 0⟩, is := ⟨2, 1, none, 0, 0⟩ }) :=
  ((((((h.set 1 _).set 2 _).set 3 _).set 4 _).set 5 _).set 6 _).congr (fun i hi => by
    have h : i = 0 ∨ i = 1 ∨ i = 2 ∨ i = 3 ∨ i = 4 ∨ i = 5 ∨ i = 6 ∨ i = 7 ∨ i = 8 ∨ i = 9 ∨ i = 10 ∨ i = 11 := by omega
    rcases h with rfl | rfl | rfl | rfl | rfl | rfl | rfl | rfl | rfl | rfl | rfl | rfl <;> rfl)
theorem onl_six {N : Nat} (w : World) : Onl N w ((((((w.setCell ⟨N, 1, none⟩ (.int .i64 2)).setCell ⟨N, 2, none⟩ (.int .i64 1)).setCell ⟨N, 3, none⟩ (.slice none 0 0)).setCell ⟨N, 4, none⟩ (.int .i64 2)).setCell ⟨N, 5, none⟩ (.int .i64 1)).setCell ⟨N, 6, none⟩ (.slice none 0 0)) :=
  ((((((Onl.refl N w).set 1 _).set 2 _).set 3 _).set 4 _).set 5 _).set 6 _
theorem blk_ne {w : World} {g N : Nat} {cs : Array Value} {f : Nat → Value} (h : w.heap[g]? = some (.cells cs 31 (0, 0))) (hr : w.rowIs N 28 12 f) : g ≠ N := fun e => by
  subst e
  obtain ⟨c, hc, _⟩ := hr
  rw [hc] at h
  cases h
theorem rm_yes {w : World} {B : Nat} {x : M8} {m : MT} (h : RM w B x m) : RM w B { x with ie := ⟨2, 1, none, 0, 0⟩, is := ⟨2, 1, none, 0, 0⟩ } { m with ie := .mk 2 1 [], is := .mk 2 1 [] } :=
  ⟨h.1, h.2.1, leaf_ex _ _ _ _, leaf_ex _ _ _ _, h.2.2.2.2.1, h.2.2.2.2.2.1, h.2.2.2.2.2.2.1, h.2.2.2.2.2.2.2.1, h.2.2.2.2.2.2.2.2⟩
theorem apt_swap {ve vs : Value} (h : ve.ownBlock = none ∨ ve.ownBlock ≠ vs.ownBlock) : vs.ownBlock = none ∨ vs.ownBlock ≠ ve.ownBlock := by
  cases hv : vs.ownBlock with
  | none => exact .inl rfl
  | some b =>
    right
    rcases h with h | h
    · rw [h]; simp
    · rw [hv] at h; exact fun e => h e.symm
theorem cV_fill {w : World} {g : Nat} (h : w.rowIs g 31 4 (cV 0 0 none 0 0 none 0 0)) : (((w.setCell ⟨g, 0, none⟩ (.int .i64 2)).setCell ⟨g, 1, none⟩ (.int .i64 1)).setCell ⟨g, 2, none⟩ (.slice none 0 0)).rowIs g 31 4 (cV 2 1 none 0 0 none 0 0) :=
  (((h.set 0 _).set 1 _).set 2 _).congr (fun i hi => by
    have h : i = 0 ∨ i = 1 ∨ i = 2 ∨ i = 3 := by omega
    rcases h with rfl | rfl | rfl | rfl <;> rfl)
theorem three_far {w : World} {g k : Nat} (a b c : Value) (hne : k ≠ g) : (((w.setCell ⟨g, 0, none⟩ a).setCell ⟨g, 1, none⟩ b).setCell ⟨g, 2, none⟩ c).heap[k]? = w.heap[k]? :=
  (Below.heap_setCell _ _ _ _ hne).trans ((Below.heap_setCell _ _ _ _ hne).trans (Below.heap_setCell _ _ _ _ hne))
theorem cV_sets {w : World} {g : Nat} {op n : Int} {A : Option Addr} {len cap : Nat} {O O2 : Option Addr} {k c k2 c2 : Nat} (h : w.rowIs g 31 4 (cV op n A len cap O k c)) : (w.setCell ⟨g, 3, none⟩ (.slice O2 k2 c2)).rowIs g 31 4 (cV op n A len cap O2 k2 c2) :=
  (h.set 3 _).congr (fun i hi => by
    have h : i = 0 ∨ i = 1 ∨ i = 2 ∨ i = 3 := by omega
    rcases h with rfl | rfl | rfl | rfl <;> rfl)
set_option maxHeartbeats 8000000 in
theorem cany_any (B : Nat) (x : M8) (m : MT) (st0 pk0 : Int) (w : World) (hB : B ≤ w.heap.size) (hrm : RM w B x m) :
    Calls Try.prog 5 #[.agg x.cells, .int .i64 st0, .int .i64 pk0] w fun e w' => e = .returned (.bool true) ∧ Below w.heap.size w w' := by
  have hbx := (Below.refl w.heap.size w).alloc (Nat.le_refl _) (.cells x.cells 28)
  have Hrm0 := hide (hrm.below (hbx.mono hB))
  have Hrow0 := hide (mV_new w x)
  have Hb0 := hide hbx
  have hz0 : w.heap.size + 1 ≤ (w.alloc (.cells x.cells 28)).heap.size := by simp
  have Ho := hide hrm.1
  obtain ⟨⟨vA, vn, vc⟩, ⟨io, im, iA, il, ic⟩, ⟨jo, jm, jA, jl, jc⟩, ⟨eA, en, ec⟩, ⟨sA, sn, sc⟩, ⟨aA, an, ac⟩, ⟨nA, nn, nc⟩, ⟨pA, pn, pc⟩⟩ := x
  clear hrm hbx
  simp only [M8.cells, SL.v] at *
  obtain ⟨q0, q1, q2, q3, q4, q5, q6, q7, q8, q9, q10, q11⟩ := row12 (mV_box Hrow0.out)
  simp only at q0 q1 q2 q3 q4 q5 q6 q7 q8 q9 q10 q11
  go_enter Try.func5, Try.ntmps5
  go_wp2_with fail
  clear q0 q1 q2 q3 q4 q5 q6 q7 q8 q9 q10 q11
  generalize w.alloc (.cells #[.slice vA vn vc, .int .i64 io, .int .i64 im, .slice iA il ic, .int .i64 jo, .int .i64 jm, .slice jA jl jc, .slice eA en ec, .slice sA sn sc, .slice aA an ac, .slice nA nn nc, .slice pA pn pc] 28) = w0 at *
  generalize hN : w.heap.size = N at *
  refine (hv6_any B ⟨⟨vA, vn, vc⟩, ⟨io, im, iA, il, ic⟩, ⟨jo, jm, jA, jl, jc⟩, ⟨eA, en, ec⟩, ⟨sA, sn, sc⟩, ⟨aA, an, ac⟩, ⟨nA, nn, nc⟩, ⟨pA, pn, pc⟩⟩ m w0 (by omega) Hrm0.out).mono ?_
  rintro e w1 ⟨rfl, hb1⟩
  have hz1 := hb1.size
  have Hb1 := hide (Hb0.out.trans (hb1.mono (by omega)))
  have Hrm1 := hide (Hrm0.out.below (hb1.mono (by omega)))
  have Hrow1 := hide (Hrow0.out.of_block (hb1.block _ (by omega)))
  clear hb1 Hb0 Hrm0 Hrow0
  generalize hv6 m = hv at *
  by_cases hh : 0 < hv
  case pos =>
    have hhb : decide (0 < hv) = true := by simp [hh]
    go_wp2_with fail
    refine (awake_any _).mono ?_
    rintro e y1 ⟨rfl, hby⟩
    go_wp2_with fail
    go_ret
    exact ⟨rfl, by rw [hN]; exact Hb1.out.trans (hby.mono (by omega))⟩
  case neg =>
    have hhb : decide (0 < hv) = false := by simp; omega
    obtain ⟨q0, q1, q2, q3, q4, q5, q6, q7, q8, q9, q10, q11⟩ := row12 (mV_box Hrow1.out)
    simp only at q0 q1 q2 q3 q4 q5 q6 q7 q8 q9 q10 q11
    go_wp2_with fail
    clear q0 q1 q2 q3 q4 q5 q6 q7 q8 q9 q10 q11
    refine (rmod_any B ⟨⟨vA, vn, vc⟩, ⟨io, im, iA, il, ic⟩, ⟨jo, jm, jA, jl, jc⟩, ⟨eA, en, ec⟩, ⟨sA, sn, sc⟩, ⟨aA, an, ac⟩, ⟨nA, nn, nc⟩, ⟨pA, pn, pc⟩⟩ m w1 (by omega) Hrm1.out).mono ?_
    rintro e w2 ⟨rfl, hb2⟩
    have hz2 := hb2.size
    have Hb2 := hide (Hb1.out.trans (hb2.mono (by omega)))
    have Hrm2 := hide (Hrm1.out.below (hb2.mono (by omega)))
    have Hrow2 := hide (Hrow1.out.of_block (hb2.block _ (by omega)))
    clear hb2 Hb1 Hrm1 Hrow1
    by_cases hc : modE m = 0
    case neg =>
      have hcb : (modE m != 0) = true := by simp [hc]
      go_wp2_with fail
      refine (awake_any _).mono ?_
      rintro e y1 ⟨rfl, hby⟩
      go_wp2_with fail
      go_ret
      exact ⟨rfl, by rw [hN]; exact Hb2.out.trans (hby.mono (by omega))⟩
    case pos =>
      have hcb : (modE m != 0) = false := by simp [hc]
      have Hc := hide hc
      clear hc
      obtain ⟨q0, q1, q2, q3, q4, q5, q6, q7, q8, q9, q10, q11⟩ := row12 (mV_box Hrow2.out)
      simp only at q0 q1 q2 q3 q4 q5 q6 q7 q8 q9 q10 q11
      go_wp2_with fail
      clear q0 q1 q2 q3 q4 q5 q6 q7 q8 q9 q10 q11
      refine (Dom.total_any vA vn vc B m.vars w2 Ho.out.1 (by omega) Hrm2.out.2.1).mono ?_
      rintro e w3 ⟨rfl, hb3⟩
      have hz3 := hb3.size
      have Hb3 := hide (Hb2.out.trans (hb3.mono (by omega)))
      have Hrm3 := hide (Hrm2.out.below (hb3.mono (by omega)))
      have Hrow3 := hide (Hrow2.out.of_block (hb3.block _ (by omega)))
      clear hb3 Hb2 Hrm2 Hrow2
      obtain ⟨tt, ht, ht512⟩ : ∃ t : Nat, Dom.totL m.vars = (t : Int) ∧ t ≤ 512 := ⟨totN m, by unfold totN; have := (Dom.totL_bd m.vars).1; omega, by unfold totN; have := (Dom.totL_bd m.vars).2; omega⟩
      have Ht := hide ht
      have htp : 0 < tt := by have := (Dom.mayL_zero (mod_vars Hc.out)).2; omega
      rw [ht]
      clear ht
      have htb : decide ((tt : Int) < 1) = false := by simp; omega
      have htc : decide (tt < 1) = false := by simp; omega
      go_wp2_with fail
      clear htb htc hcb hhb hh
      refine (yes_any _).mono ?_
      rintro e _ ⟨rfl, rfl⟩
      go_wp2_with fail
      refine (yes_any _).mono ?_
      rintro e _ ⟨rfl, rfl⟩
      have hs3 : (w3.alloc (.cells #[.int .i64 0, .int .i64 0, .slice none 0 0, .slice none 0 0] 31)).heap.size = w3.heap.size + 1 := by simp
      have Hre4 := hide ((((cV_new w3).alloc (.cells #[.int .i64 0, .int .i64 0, .slice none 0 0, .slice none 0 0] 31)).alloc (.cells #[.int .i64 2, .int .i64 1, .slice none 0 0] 25)).alloc (.cells #[.int .i64 2, .int .i64 1, .slice none 0 0] 25))
      have Hrs4 := hide (((cV_new (w3.alloc (.cells #[.int .i64 0, .int .i64 0, .slice none 0 0, .slice none 0 0] 31))).alloc (.cells #[.int .i64 2, .int .i64 1, .slice none 0 0] 25)).alloc (.cells #[.int .i64 2, .int .i64 1, .slice none 0 0] 25))
      rw [hs3] at Hrs4
      have hb4 := ((((Below.refl w3.heap.size w3).alloc (Nat.le_refl _) (.cells #[.int .i64 0, .int .i64 0, .slice none 0 0, .slice none 0 0] 31)).alloc (by simp) (.cells #[.int .i64 0, .int .i64 0, .slice none 0 0, .slice none 0 0] 31)).alloc (by simp; omega) (.cells #[.int .i64 2, .int .i64 1, .slice none 0 0] 25)).alloc (by simp; omega) (.cells #[.int .i64 2, .int .i64 1, .slice none 0 0] 25)
      have hz4 : ((((w3.alloc (.cells #[.int .i64 0, .int .i64 0, .slice none 0 0, .slice none 0 0] 31)).alloc (.cells #[.int .i64 0, .int .i64 0, .slice none 0 0, .slice none 0 0] 31)).alloc (.cells #[.int .i64 2, .int .i64 1, .slice none 0 0] 25)).alloc (.cells #[.int .i64 2, .int .i64 1, .slice none 0 0] 25)).heap.size = w3.heap.size + 4 := by simp
      generalize (((w3.alloc (.cells #[.int .i64 0, .int .i64 0, .slice none 0 0, .slice none 0 0] 31)).alloc (.cells #[.int .i64 0, .int .i64 0, .slice none 0 0, .slice none 0 0] 31)).alloc (.cells #[.int .i64 2, .int .i64 1, .slice none 0 0] 25)).alloc (.cells #[.int .i64 2, .int .i64 1, .slice none 0 0] 25) = w4 at *
      clear hs3
      have e0 := Hre4.out.cell (i := 0) (by omega)
      have e1 := Hre4.out.cell (i := 1) (by omega)
      have e2 := Hre4.out.cell (i := 2) (by omega)
      have e3 := Hre4.out.frozen 0
      have e4 := Hre4.out.frozen 1
      have e5 := Hre4.out.frozen 2
      have s0 := Hrs4.out.cell (i := 0) (by omega)
      have s1 := Hrs4.out.cell (i := 1) (by omega)
      have s2 := Hrs4.out.cell (i := 2) (by omega)
      have s3 := Hrs4.out.frozen 0
      have s4 := Hrs4.out.frozen 1
      have s5 := Hrs4.out.frozen 2
      simp only [cV] at e0 e1 e2 s0 s1 s2
      have Hrow4 := hide (Hrow3.out.of_block (hb4.block _ (by omega)))
      have Hb4 := hide (Hb3.out.trans (hb4.mono (by omega)))
      have Hrm4 := hide (Hrm3.out.below (hb4.mono (by omega)))
      clear hb4 Hb3 Hrm3 Hrow3
      generalize hGe : w3.heap.size = Ge at *
      have hGs : ∃ Gs, Ge + 1 = Gs := ⟨_, rfl⟩
      obtain ⟨Gs, hGs⟩ := hGs
      rw [hGs] at Hrs4 s0 s1 s2 s3 s4 s5 ⊢
      have n1 : N ≠ Ge := by omega
      have n2 : N ≠ Gs := by omega
      have n3 : Ge ≠ Gs := by omega
      have n4 : Gs ≠ Ge := by omega
      obtain ⟨q0, q1, q2, q3, q4, q5, q6, q7, q8, q9, q10, q11⟩ := row12 (mV_box Hrow4.out)
      simp only at q0 q1 q2 q3 q4 q5 q6 q7 q8 q9 q10 q11
      clear q1 q2 q3 q4 q5 q6 q7 q8 q9 q10 q11
      go_wp2_with fail
      clear q0 e0 e1 e2 e3 e4 e5 s0 s1 s2 s3 s4 s5
      have Hre5 := hide ((((cV_fill Hre4.out).of_block (three_far (g := Gs) (.int .i64 2) (.int .i64 1) (.slice none 0 0) n3))))
      have Hrs5 : Hid (((((((w4.setCell ⟨Ge, 0, none⟩ (.int .i64 2)).setCell ⟨Ge, 1, none⟩ (.int .i64 1)).setCell ⟨Ge, 2, none⟩ (.slice none 0 0)).setCell ⟨Gs, 0, none⟩ (.int .i64 2)).setCell ⟨Gs, 1, none⟩ (.int .i64 1)).setCell ⟨Gs, 2, none⟩ (.slice none 0 0)).rowIs Gs 31 4 (cV 2 1 none 0 0 none 0 0)) := hide (cV_fill (Hrs4.out.of_block (three_far (g := Ge) (.int .i64 2) (.int .i64 1) (.slice none 0 0) n4)))
      have Hb5 : Hid (Below Ge w4 ((((((w4.setCell ⟨Ge, 0, none⟩ (.int .i64 2)).setCell ⟨Ge, 1, none⟩ (.int .i64 1)).setCell ⟨Ge, 2, none⟩ (.slice none 0 0)).setCell ⟨Gs, 0, none⟩ (.int .i64 2)).setCell ⟨Gs, 1, none⟩ (.int .i64 1)).setCell ⟨Gs, 2, none⟩ (.slice none 0 0))) := hide ((((((( Below.refl Ge w4).setCell (by exact Nat.le_refl _) _).setCell (by exact Nat.le_refl _) _).setCell (by exact Nat.le_refl _) _).setCell (by show Ge ≤ Gs; omega) _).setCell (by show Ge ≤ Gs; omega) _).setCell (by show Ge ≤ Gs; omega) _)
      generalize (((((w4.setCell ⟨Ge, 0, none⟩ (.int .i64 2)).setCell ⟨Ge, 1, none⟩ (.int .i64 1)).setCell ⟨Ge, 2, none⟩ (.slice none 0 0)).setCell ⟨Gs, 0, none⟩ (.int .i64 2)).setCell ⟨Gs, 1, none⟩ (.int .i64 1)).setCell ⟨Gs, 2, none⟩ (.slice none 0 0) = w5 at *
      clear Hre4 Hrs4
      have hz5 := Hb5.out.size
      have Hnl := hide Hrm4.out.2.1.1
      have hvn6 : vn ≤ 6 := by have h1 := Hnl.out; have h2 := Dom.totL_len (Dom.mayL_zero (mod_vars Hc.out)).2; simp only at h1; omega
      simp only at Hnl
      obtain ⟨i0, hi0, hi1, hi2, hi3⟩ := info_parts info50
      have Hi0 := hide hi0; have Hi1 := hide hi1; have Hi2 := hide hi2; have Hi3 := hide hi3
      clear hi0 hi1 hi2 hi3
      go_loopw [40] (fun i wr => ∃ (k ne ce : Nat) (Oe : Option Addr) (kse : List (List Value)) (ns cs : Nat) (Os : Option Addr) (kss : List (List Value)), k ≤ vn ∧ i = .int .i64 k ∧ ne ≤ k ∧ ns ≤ k ∧ Hid (Chunk 5 FreeC kse (anyGo true 0 (m.vars.take k))) ∧ Hid (Chunk 5 FreeC kss (anyGo false 0 (m.vars.take k))) ∧ Hid (wr.ownsRow (Gs + 1) 50 5 (.slice Oe ne ce) ne kse.flatten) ∧ Hid (wr.ownsRow (Gs + 1) 50 5 (.slice Os ns cs) ns kss.flatten) ∧ Hid ((Value.slice Oe ne ce).ownBlock = none ∨ (Value.slice Oe ne ce).ownBlock ≠ (Value.slice Os ns cs).ownBlock) ∧ Hid (wr.rowIs Ge 31 4 (cV 2 1 none 0 0 Oe ne ce)) ∧ Hid (wr.rowIs Gs 31 4 (cV 2 1 none 0 0 Os ns cs)) ∧ Hid (Below Ge w4 wr)) (fun i _ => vn - (intOf i).toNat)
      case atStart => exact ⟨0, 0, 0, none, [], 0, 0, none, [], by omega, rfl, by omega, by omega, hide Chunk.nil, hide Chunk.nil, hide ⟨rfl, .inl ⟨rfl, rfl⟩⟩, hide ⟨rfl, .inl ⟨rfl, rfl⟩⟩, hide (.inl rfl), Hre5, Hrs5, Hb5⟩
      case round =>
        obtain ⟨k, ne, ce, Oe, kse, ns, cs, Os, kss, hk, rfl, hne, hns, Hche, Hchs, Howe, Hows, Hapt, Hre, Hrs, Hbr⟩ := hrel
        have hzr := Hbr.out.size
        clear Hre5 Hrs5 Hb5
        by_cases hlt : k < vn
        · have hlt' : ((k : Int) < (vn : Int)) := by omega
          obtain ⟨b, off, v, eA, hbB, hlk, c0, c1, c2, c3, c4⟩ := (Hrm4.out.2.1.below (Hbr.out.mono (show B ≤ Ge by omega))).at_ hlt
          simp only at eA
          subst eA
          have Hte := hide (any_take (e := true) hlk)
          have Hts := hide (any_take (e := false) hlk)
          clear hlk
          have hbA := (Below.refl wr.heap.size wr).alloc (Nat.le_refl _) (.cells #[.string v.nm, .bool v.env, .int .i64 v.srt, .int .i64 v.lo, .int .i64 v.hi] 48)
          have Howe2 := hide (own_below Howe.out hbA)
          have Hows2 := hide (own_below Hows.out hbA)
          have Hre2 := hide (Hre.out.alloc (.cells #[.string v.nm, .bool v.env, .int .i64 v.srt, .int .i64 v.lo, .int .i64 v.hi] 48))
          have Hrs2 := hide (Hrs.out.alloc (.cells #[.string v.nm, .bool v.env, .int .i64 v.srt, .int .i64 v.lo, .int .i64 v.hi] 48))
          have Hb5 := hide (Hbr.out.trans (hbA.mono (by omega)))
          have hs5 : (wr.alloc (.cells #[.string v.nm, .bool v.env, .int .i64 v.srt, .int .i64 v.lo, .int .i64 v.hi] 48)).heap.size = wr.heap.size + 1 := by simp
          obtain ⟨d0, d1, d2, d3, d4⟩ := Dom.box_new wr v 48
          have e3 := Hre2.out.cell (i := 3) (by omega)
          have s3 := Hrs2.out.cell (i := 3) (by omega)
          simp only [cV] at e3 s3
          clear hbA Howe Hows Hre Hrs Hbr
          cases hve : v.env
          · rw [if_neg (by rw [hve]; simp), List.append_nil] at Hte
            rw [if_pos hve] at Hts
            rw [hve] at d0 d1 d2 d3 d4 c1 Howe2 Hows2 Hre2 Hrs2 Hb5 hs5 e3 s3
            go_wp2_with (at_builtin; generalize wr.alloc (.cells #[.string v.nm, .bool false, .int .i64 v.srt, .int .i64 v.lo, .int .i64 v.hi] 48) = w5 at *; refine wpList_append_lies _ rfl _ _ _ rfl (Gs + 1) 50 i0 _ 5 56 Try.underlying29 Hi0.out Hi1.out Hi2.out Hi3.out rfl (by omega) (.slice Os ns cs) ns kss.flatten rfl (Hows2.out.alloc _) ⟨wr.heap.size + 1, 0, none⟩ 1 1 [.int .i64 (k : Int), .bool true, .int .i64 0, .int .i64 0, .slice none 0 0] rfl rfl (by rw [← hs5]; exact World.news_of_block (cs := #[.int .i64 (k : Int), .bool true, .int .i64 0, .int .i64 0, .slice none 0 0]) (t := 50) (fr := (0, 0)) (heap_alloc_new w5 _)) (by simp [Value.oneCell']) (by omega) (by unfold maxLen; omega) (by omega) (by simp; omega) _ rfl ?_; intro g6 cap6 w6 hown6 hgrow6 hat6 hlt6; have Hrm6 := hide (rows6 Hrs2.out (o := .cells #[.int .i64 (k : Int), .bool true, .int .i64 0, .int .i64 0, .slice none 0 0] 50) hgrow6 (fun j hj => by have := (Hows2.out.lt j hj).1; omega)); have ho6 := rows6 Hre2.out (o := .cells #[.int .i64 (k : Int), .bool true, .int .i64 0, .int .i64 0, .slice none 0 0] 50) hgrow6 (fun j hj => by have := (Hows2.out.lt j hj).1; omega); have hc6 := Hrm6.out.cell (i := 3) (by omega); have hf6 := Hrm6.out.frozen 3; simp only [cV] at hc6)
            have Hor6 := hide ho6
            obtain ⟨t1, t2⟩ := two_app (vs := .slice Oe ne ce) (Howe2.out.alloc _) (apt_swap Hapt.out) hgrow6 (by simpa using hat6)
            have Hoo6 := hide t1
            have Hb6 := hide ((Hb5.out.alloc (by omega) _).grown hgrow6 (by simp; omega) (fun j hj => by have := (Hows2.out.lt j hj).1; omega))
            have Ho6 := hide hown6
            rw [← rows_flat_snoc] at Ho6
            have hz6 := hgrow6.size
            simp at hz6
            clear hown6 hgrow6 hat6 ho6 t1 hc6 hf6 d0 d1 d2 d3 d4
            go_roundw
            case rel => exact ⟨k + 1, ne, ce, Oe, kse, ns + 1, cap6, some ⟨g6, 0, none⟩, _, by omega, by go_num, by omega, by omega, hide (by rw [Hte.out]; exact Hche.out), hide (by rw [Hts.out]; exact Hchs.out.snoc rfl (by simp [Value.oneCell']) ⟨rfl, rfl⟩), hide (ownsRow_setCell_below Hoo6.out (by show Gs < Gs + 1; omega) _), hide (ownsRow_setCell_below Ho6.out (by show Gs < Gs + 1; omega) _), hide (.inr (fun h => t2 (by simpa [Value.ownBlock] using h.symm))), hide (Hor6.out.of_block (Below.heap_setCell _ _ _ _ n3)), hide (cV_sets Hrm6.out), hide (Hb6.out.setCell (by show Ge ≤ Gs; omega) _)⟩
            case measure => simp [intOf]; omega
          · rw [if_pos hve] at Hte
            rw [if_neg (by rw [hve]; simp), List.append_nil] at Hts
            rw [hve] at d0 d1 d2 d3 d4 c1 Howe2 Hows2 Hre2 Hrs2 Hb5 hs5 e3 s3
            go_wp2_with (at_builtin; generalize wr.alloc (.cells #[.string v.nm, .bool true, .int .i64 v.srt, .int .i64 v.lo, .int .i64 v.hi] 48) = w5 at *; refine wpList_append_lies _ rfl _ _ _ rfl (Gs + 1) 50 i0 _ 5 56 Try.underlying29 Hi0.out Hi1.out Hi2.out Hi3.out rfl (by omega) (.slice Oe ne ce) ne kse.flatten rfl (Howe2.out.alloc _) ⟨wr.heap.size + 1, 0, none⟩ 1 1 [.int .i64 (k : Int), .bool true, .int .i64 0, .int .i64 0, .slice none 0 0] rfl rfl (by rw [← hs5]; exact World.news_of_block (cs := #[.int .i64 (k : Int), .bool true, .int .i64 0, .int .i64 0, .slice none 0 0]) (t := 50) (fr := (0, 0)) (heap_alloc_new w5 _)) (by simp [Value.oneCell']) (by omega) (by unfold maxLen; omega) (by omega) (by simp; omega) _ rfl ?_; intro g6 cap6 w6 hown6 hgrow6 hat6 hlt6; have Hrm6 := hide (rows6 Hre2.out (o := .cells #[.int .i64 (k : Int), .bool true, .int .i64 0, .int .i64 0, .slice none 0 0] 50) hgrow6 (fun j hj => by have := (Howe2.out.lt j hj).1; omega)); have ho6 := rows6 Hrs2.out (o := .cells #[.int .i64 (k : Int), .bool true, .int .i64 0, .int .i64 0, .slice none 0 0] 50) hgrow6 (fun j hj => by have := (Howe2.out.lt j hj).1; omega); have hc6 := Hrm6.out.cell (i := 3) (by omega); have hf6 := Hrm6.out.frozen 3; simp only [cV] at hc6)
            have Hor6 := hide ho6
            obtain ⟨t1, t2⟩ := two_app (vs := .slice Os ns cs) (Hows2.out.alloc _) Hapt.out hgrow6 (by simpa using hat6)
            have Hoo6 := hide t1
            have Hb6 := hide ((Hb5.out.alloc (by omega) _).grown hgrow6 (by simp; omega) (fun j hj => by have := (Howe2.out.lt j hj).1; omega))
            have Ho6 := hide hown6
            rw [← rows_flat_snoc] at Ho6
            have hz6 := hgrow6.size
            simp at hz6
            clear hown6 hgrow6 hat6 ho6 t1 hc6 hf6 d0 d1 d2 d3 d4
            go_roundw
            case rel => exact ⟨k + 1, ne + 1, cap6, some ⟨g6, 0, none⟩, _, ns, cs, Os, kss, by omega, by go_num, by omega, by omega, hide (by rw [Hte.out]; exact Hche.out.snoc rfl (by simp [Value.oneCell']) ⟨rfl, rfl⟩), hide (by rw [Hts.out]; exact Hchs.out), hide (ownsRow_setCell_below Ho6.out (by show Ge < Gs + 1; omega) _), hide (ownsRow_setCell_below Hoo6.out (by show Ge < Gs + 1; omega) _), hide (.inr (fun h => t2 (by simpa [Value.ownBlock] using h))), hide (cV_sets Hrm6.out), hide (Hor6.out.of_block (Below.heap_setCell _ _ _ _ n4)), hide (Hb6.out.setCell (by exact Nat.le_refl _) _)⟩
            case measure => simp [intOf]; omega
        · have hlt' : ¬ ((k : Int) < (vn : Int)) := by omega
          obtain rfl : k = vn := by omega
          have Hche' : Hid (Chunk 5 FreeC kse (anyGo true 0 m.vars)) := hide (by have h := Hche.out; rw [← Hnl.out, List.take_length] at h; exact h)
          have Hchs' : Hid (Chunk 5 FreeC kss (anyGo false 0 m.vars)) := hide (by have h := Hchs.out; rw [← Hnl.out, List.take_length] at h; exact h)
          clear Hche Hchs
          have Hrowr := hide (Hrow4.out.of_block (Hbr.out.block N (by omega)))
          have Hbwr := hide (Hb4.out.trans (Hbr.out.mono (by omega)))
          have Hrmr := hide (Hrm4.out.below (Hbr.out.mono (by omega)))
          clear Hrow4 Hb4 Hrm4 Hbr
          go_wp2_with fail
          refine any_region (base := N) (nb := N) (eb := Ge) (sb := Gs) (bs := (Value.slice Oe ne ce).ownBlock.toList ++ (Value.slice Os ns cs).ownBlock.toList) (x := ⟨⟨vA, k, vc⟩, ⟨io, im, iA, il, ic⟩, ⟨jo, jm, jA, jl, jc⟩, ⟨eA, en, ec⟩, ⟨sA, sn, sc⟩, ⟨aA, an, ac⟩, ⟨nA, nn, nc⟩, ⟨pA, pn, pc⟩⟩) (eO := Oe) (en := ne) (ec := ce) (sO := Os) (sn := ns) (sc := cs) (by kernel_rfl) (by kernel_rfl) (by kernel_rfl) (by kernel_rfl) ⟨_, _, _, rfl⟩ ⟨_, _, _, rfl⟩ ⟨_, _, _, rfl⟩ ⟨_, _, _, rfl⟩ ⟨_, _, _, rfl⟩ ⟨_, _, _, rfl⟩ ⟨_, _, _, rfl⟩ ⟨_, _, _, rfl⟩ (by simp) rfl rfl rfl (cV_box Hre.out) (cV_box Hrs.out) Hrowr.out ⟨by omega, by omega⟩ ⟨by omega, by omega⟩ ⟨by omega, by omega⟩ (fun b hb => by
            rcases List.mem_append.1 hb with h | h
            · have := Howe.out.lt b (by simpa using h); omega
            · have := Hows.out.lt b (by simpa using h); omega) (by omega) ?_
          intro u ga gb w6 hrow6 hga hgb hbs6 hb6
          rw [sel_cons, sel_cons, sel_cons, sel_cons, sel_cons, sel_cons, sel_nil]
          generalize u 62 = u62
          generalize u 63 = u63
          generalize u 64 = u64
          generalize u 65 = u65
          generalize u 66 = u66
          generalize u 67 = u67
          clear u
          have hz6 := hb6.size
          have Hb6 := hide (Hbwr.out.trans hb6)
          have HrmO6 := hide (Hrmr.out.below (hb6.mono (by omega)))
          have Hrow6 := hide (row_both (s := ⟨some ⟨ga, 0, none⟩, 1, 1⟩) (u := ⟨some ⟨gb, 0, none⟩, 1, 1⟩) hrow6)
          simp only at Hrow6
          have Hga6 := hide hga
          have Hgb6 := hide hgb
          have Hoe6 := hide (own_at Howe.out (fun b hb => hbs6 b (by rw [hb]; simp)))
          have Hos6 := hide (own_at Hows.out (fun b hb => hbs6 b (by rw [hb]; simp)))
          clear hrow6 hga hgb hbs6 hb6 Hbwr Hrmr Hrowr Howe Hows Hre Hrs Hapt
          obtain ⟨q0, _⟩ := row12 (mV_box Hrow6.out)
          simp only at q0
          go_simp
          go_wp2_with fail
          clear q0
          refine (Dom.total_any vA k vc B m.vars w6 Ho.out.1 (by omega) HrmO6.out.2.1).mono ?_
          rintro e w7 ⟨rfl, hb7⟩
          have hz7 := hb7.size
          have Hb7 := hide (Hb6.out.trans (hb7.mono (by omega)))
          have HrmO7 := hide (HrmO6.out.below (hb7.mono (by omega)))
          have Hrow7 := hide (Hrow6.out.of_block (hb7.block _ (by omega)))
          have Hga7 := hide ((hb7.block ga (blk_lt Hga6.out)).trans Hga6.out)
          have Hgb7 := hide ((hb7.block gb (blk_lt Hgb6.out)).trans Hgb6.out)
          have Hoe7 := hide (own_below Hoe6.out hb7)
          have Hos7 := hide (own_below Hos6.out hb7)
          clear hb7 Hb6 HrmO6 Hrow6 Hga6 Hgb6 Hoe6 Hos6
          rw [Ht.out]
          have hwN : IntKind.u64.wrap (tt : Int) = (tt : Int) := by rw [IntKind.wrap_u64]; omega
          have hmod : ∀ z : Int, ∃ q : Nat, q < tt ∧ (IntKind.u64.wrap z).tmod (tt : Int) = (q : Int) := fun z => by
            have h0 : 0 ≤ IntKind.u64.wrap z := by rw [IntKind.wrap_u64]; omega
            have hp : (0 : Int) < (tt : Int) := by omega
            have h1 := Int.emod_nonneg (IntKind.u64.wrap z) (show (tt : Int) ≠ 0 by omega)
            have h2 := Int.emod_lt_of_pos (IntKind.u64.wrap z) hp
            refine ⟨((IntKind.u64.wrap z).tmod (tt : Int)).toNat, ?_, ?_⟩
            · rw [Int.tmod_eq_emod_of_nonneg h0]; omega
            · rw [Int.tmod_eq_emod_of_nonneg h0]; omega
          obtain ⟨q, hqn, hqe⟩ := hmod st0
          obtain ⟨r, hrn, hre⟩ := hmod pk0
          have hqw : IntKind.i64.wrap (q : Int) = (q : Int) := by rw [IntKind.wrap_i64]; omega
          have hrw : IntKind.i64.wrap (r : Int) = (r : Int) := by rw [IntKind.wrap_i64]; omega
          have hv0' : ¬ (tt : Int) = 0 := by omega
          clear hmod
          go_wp2_with fail
          clear hqe hqw
          have hBW : B ≤ w7.heap.size := by omega
          have Hq23 : Hid (∀ s e dd os, Calls Try.prog 13 #[.slice vA k vc, .int .i64 s, .bool e] (grow (redrawn w7 dd) os) fun e' w'' => e' = .returned (.int .i64 (Dom.partL m.vars s e)) ∧ ∃ p : Regrown, w'' = grow (redrawn w7 p.d) p.os) := hide (fun s e dd os =>
            Calls.regrown_of (Dom.part_any vA k vc B m.vars s e _ Ho.out.1 (Nat.le_trans hBW (below_regrown w7 dd os).size) (HrmO7.out.2.1.below ((below_regrown w7 dd os).mono hBW)) Ho.out.2.2.2))
          have C0 := cell_regrown (row12 (mV_box Hrow7.out)).1
          simp only at C0
          refine wp_region_quiet_below (by kernel_rfl) (by kernel_rfl) ?_
          repeat (go_big_quiet_step (first | (go_at_call 13; exact Hq23.out _ _ _ _)))
          refine wpQuiet_nil ?_
          intro w8 hw8
          obtain ⟨pp, hpp⟩ := hw8
          have hb8 : Below w7.heap.size w7 w8 := by rw [hpp]; exact below_regrown w7 pp.d pp.os
          clear hpp C0 Hq23 hre hrw hwN hv0'
          have hz8 := hb8.size
          have Hb8 := hide (Hb7.out.trans (hb8.mono (by omega)))
          have HrmO8 := hide (HrmO7.out.below (hb8.mono (by omega)))
          have Hrow8 := hide (Hrow7.out.of_block (hb8.block _ (by omega)))
          have Hga8 := hide ((hb8.block ga (blk_lt Hga7.out)).trans Hga7.out)
          have Hgb8 := hide ((hb8.block gb (blk_lt Hgb7.out)).trans Hgb7.out)
          have Hoe8 := hide (own_below Hoe7.out hb8)
          have Hos8 := hide (own_below Hos7.out hb8)
          clear hb8 Hb7 HrmO7 Hrow7 Hga7 Hgb7 Hoe7 Hos7
          have Hdat := hide (any_data (pk := (r : Int)) (q := (q : Int)) Hc.out (by omega) (by rw [Ht.out]; omega) (by omega) (by rw [Ht.out]; omega))
          generalize Dom.partL m.vars (r : Int) true = pk at *
          have HrmT8 := hide (any_rm HrmO8.out (by omega) Hga8.out Hgb8.out Hoe8.out Hche'.out Hos8.out Hchs'.out)
          simp only at HrmT8
          have hNW : N < w8.heap.size := by omega
          have Hdr : Hid (Below w8.heap.size w8 w8.drew) := hide (Below.refl _ _).drew
          have HbxN := hide (mV_box Hrow8.out)
          go_wp2_with fail
          go_region_held3 (fun w' => w'.cell? ⟨N, 0, none⟩ = some (.slice vA k vc) ∧ w'.cell? ⟨N, 1, none⟩ = some (.int .i64 io) ∧ w'.cell? ⟨N, 2, none⟩ = some (.int .i64 im) ∧ w'.cell? ⟨N, 3, none⟩ = some (.slice iA il ic) ∧ w'.cell? ⟨N, 4, none⟩ = some (.int .i64 jo) ∧ w'.cell? ⟨N, 5, none⟩ = some (.int .i64 jm) ∧ w'.cell? ⟨N, 6, none⟩ = some (.slice jA jl jc) ∧ w'.cell? ⟨N, 7, none⟩ = some (.slice (some ⟨ga, 0, none⟩) 1 1) ∧ w'.cell? ⟨N, 8, none⟩ = some (.slice (some ⟨gb, 0, none⟩) 1 1) ∧ w'.cell? ⟨N, 9, none⟩ = some (.slice aA an ac) ∧ w'.cell? ⟨N, 10, none⟩ = some (.slice nA nn nc) ∧ w'.cell? ⟨N, 11, none⟩ = some (.slice pA pn pc))
            (first | exact keep12 HbxN hNW (by assumption))
            (first
              | (go_at_call 14; refine (f_dV (x := ⟨⟨vA, k, vc⟩, ⟨io, im, iA, il, ic⟩, ⟨jo, jm, jA, jl, jc⟩, ⟨some ⟨ga, 0, none⟩, 1, 1⟩, ⟨some ⟨gb, 0, none⟩, 1, 1⟩, ⟨aA, an, ac⟩, ⟨nA, nn, nc⟩, ⟨pA, pn, pc⟩⟩) (Nat.le_refl _) HrmT8 (by assumption)).mono ?_; rintro e va ⟨Oa, ca, rfl, hoa, hqa, hba⟩)
              | (go_at_call 15; refine (f_dY (x := ⟨⟨vA, k, vc⟩, ⟨io, im, iA, il, ic⟩, ⟨jo, jm, jA, jl, jc⟩, ⟨some ⟨ga, 0, none⟩, 1, 1⟩, ⟨some ⟨gb, 0, none⟩, 1, 1⟩, ⟨aA, an, ac⟩, ⟨nA, nn, nc⟩, ⟨pA, pn, pc⟩⟩) (Nat.le_refl _) HrmT8 (by assumption)).mono ?_; rintro e vb ⟨Ob, cb, rfl, hob, hqb, hbb⟩))
          have hb9 := hbb.out
          have Hra9 := hide (hoa.out.onl (G := N) (below_onl hqb.out) hNW)
          have Hrb9 := hide hob.out
          obtain ⟨w9, rfl⟩ : ∃ w9, w9 = vb := ⟨_, rfl⟩
          clear hoa hob hqa hqb hba hbb Hdr HbxN HrmT8
          have hz9 := hb9.size
          have Hb9 := hide (Hb8.out.trans (hb9.mono (by omega)))
          have HrmO9 := hide (HrmO8.out.below (hb9.mono (by omega)))
          have Hrow9 := hide (Hrow8.out.of_block (hb9.block _ (by omega)))
          have Hga9 := hide ((hb9.block ga (blk_lt Hga8.out)).trans Hga8.out)
          have Hgb9 := hide ((hb9.block gb (blk_lt Hgb8.out)).trans Hgb8.out)
          have Hoe9 := hide (own_below Hoe8.out hb9)
          have Hos9 := hide (own_below Hos8.out hb9)
          clear hb9 Hb8 HrmO8 Hrow8 Hga8 Hgb8 Hoe8 Hos8
          generalize hLO : w8.heap.size = LO at *
          clear hLO
          have hprod : (((envL { m with env := [⟨.mk 2 1 [], anyGo true 0 m.vars⟩], sys := [⟨.mk 2 1 [], anyGo false 0 m.vars⟩] } (q : Int)).length : Nat) : Int) * (((sysL { m with env := [⟨.mk 2 1 [], anyGo true 0 m.vars⟩], sys := [⟨.mk 2 1 [], anyGo false 0 m.vars⟩] } (q : Int) pk).length : Nat) : Int) = (tt : Int) := Hdat.out.2.2.trans Ht.out
          have HdE := hide Hdat.out.1
          have HdS := hide Hdat.out.2.1
          have Hlen := hide (any_len512 (m := { m with env := [⟨.mk 2 1 [], anyGo true 0 m.vars⟩], sys := [⟨.mk 2 1 [], anyGo false 0 m.vars⟩] }) (q : Int) pk)
          clear Hdat
          generalize envL { m with env := [⟨.mk 2 1 [], anyGo true 0 m.vars⟩], sys := [⟨.mk 2 1 [], anyGo false 0 m.vars⟩] } (q : Int) = la at *
          generalize sysL { m with env := [⟨.mk 2 1 [], anyGo true 0 m.vars⟩], sys := [⟨.mk 2 1 [], anyGo false 0 m.vars⟩] } (q : Int) pk = lb at *
          have hcmp : (wrap64 (((la.length : Nat) : Int) * ((lb.length : Nat) : Int)) != (tt : Int)) = false := by
            rw [hprod, Dom.wrap64_mid _ (by omega) (by omega)]; simp
          clear hprod
          go_wp2_with fail
          clear hcmp
          refine (yes_any _).mono ?_
          rintro e _ ⟨rfl, rfl⟩
          go_wp2_with fail
          refine (yes_any _).mono ?_
          rintro e _ ⟨rfl, rfl⟩
          have hb10 := ((Below.refl w9.heap.size w9).alloc (Nat.le_refl _) (.cells #[.int .i64 2, .int .i64 1, .slice none 0 0] 25)).alloc (by simp) (.cells #[.int .i64 2, .int .i64 1, .slice none 0 0] 25)
          generalize (w9.alloc (.cells #[.int .i64 2, .int .i64 1, .slice none 0 0] 25)).alloc (.cells #[.int .i64 2, .int .i64 1, .slice none 0 0] 25) = w10 at *
          have hz10 := hb10.size
          have Hb10 := hide (Hb9.out.trans (hb10.mono (by omega)))
          have HrmO10 := hide (HrmO9.out.below (hb10.mono (by omega)))
          have Hrow10 := hide (Hrow9.out.of_block (hb10.block _ (by omega)))
          have Hga10 := hide ((hb10.block ga (blk_lt Hga9.out)).trans Hga9.out)
          have Hgb10 := hide ((hb10.block gb (blk_lt Hgb9.out)).trans Hgb9.out)
          have Hoe10 := hide (own_below Hoe9.out hb10)
          have Hos10 := hide (own_below Hos9.out hb10)
          have Hra10 := hide (Hra9.out.onl (G := N) (below_onl hb10) hNW)
          have Hrb10 := hide (Hrb9.out.onl (G := N) (below_onl hb10) hNW)
          clear Hra9 Hrb9 hb10 Hb9 HrmO9 Hrow9 Hga9 Hgb9 Hoe9 Hos9
          have z1 := Hrow10.out.frozen 1
          have z2 := Hrow10.out.frozen 2
          have z3 := Hrow10.out.frozen 3
          have z4 := Hrow10.out.frozen 4
          have z5 := Hrow10.out.frozen 5
          have z6 := Hrow10.out.frozen 6
          obtain ⟨q0, q1, q2, q3, q4, q5, q6, q7, q8, q9, q10, q11⟩ := row12 (mV_box Hrow10.out)
          simp only at q0 q1 q2 q3 q4 q5 q6 q7 q8 q9 q10 q11
          go_wp2_with fail
          clear q0 q1 q2 q3 q4 q5 q6 q7 q8 q9 q10 q11 z1 z2 z3 z4 z5 z6
          have Hrow11 := hide (row_yes Hrow10.out)
          simp only at Hrow11
          have hon11 := onl_six (N := N) w10
          have hgaN : ga ≠ N := blk_ne Hga10.out Hrow10.out
          have hgbN : gb ≠ N := blk_ne Hgb10.out Hrow10.out
          generalize (((((w10.setCell ⟨N, 1, none⟩ (.int .i64 2)).setCell ⟨N, 2, none⟩ (.int .i64 1)).setCell ⟨N, 3, none⟩ (.slice none 0 0)).setCell ⟨N, 4, none⟩ (.int .i64 2)).setCell ⟨N, 5, none⟩ (.int .i64 1)).setCell ⟨N, 6, none⟩ (.slice none 0 0) = w11 at *
          have hz11 := hon11.size
          have hbN := hon11.below (B := N) (Nat.le_refl _) (by omega)
          have Hb11 := hide (Hb10.out.trans hbN)
          have HrmO11 := hide (HrmO10.out.below (hbN.mono (by omega)))
          have Hga11 := hide ((hon11.2.2.2.2 ga (blk_lt Hga10.out) hgaN).trans Hga10.out)
          have Hgb11 := hide ((hon11.2.2.2.2 gb (blk_lt Hgb10.out) hgbN).trans Hgb10.out)
          have Hoe11 := hide (own_at Hoe10.out (fun b hb => hon11.2.2.2.2 b (Hoe10.out.lt b hb).2 (by have := (Hoe10.out.lt b hb).1; omega)))
          have Hos11 := hide (own_at Hos10.out (fun b hb => hon11.2.2.2.2 b (Hos10.out.lt b hb).2 (by have := (Hos10.out.lt b hb).1; omega)))
          have Hra11 := hide (Hra10.out.onl (G := N) hon11 hNW)
          have Hrb11 := hide (Hrb10.out.onl (G := N) hon11 hNW)
          clear hbN hon11 Hb10 HrmO10 Hrow10 Hga10 Hgb10 Hoe10 Hos10 Hra10 Hrb10 hgaN hgbN
          have HrmT11 := hide (rm_yes (any_rm HrmO11.out (by omega) Hga11.out Hgb11.out Hoe11.out Hche'.out Hos11.out Hchs'.out))
          simp only at HrmT11
          have hNW11 : N < w11.heap.size := by omega
          have Hdr : Hid (Below w11.heap.size w11 w11.drew) := hide (Below.refl _ _).drew
          have HbxN := hide (mV_box Hrow11.out)
          go_wp2_with fail
          go_region_held3 (fun w' => w'.cell? ⟨N, 0, none⟩ = some (.slice vA k vc) ∧ w'.cell? ⟨N, 1, none⟩ = some (.int .i64 2) ∧ w'.cell? ⟨N, 2, none⟩ = some (.int .i64 1) ∧ w'.cell? ⟨N, 3, none⟩ = some (.slice none 0 0) ∧ w'.cell? ⟨N, 4, none⟩ = some (.int .i64 2) ∧ w'.cell? ⟨N, 5, none⟩ = some (.int .i64 1) ∧ w'.cell? ⟨N, 6, none⟩ = some (.slice none 0 0) ∧ w'.cell? ⟨N, 7, none⟩ = some (.slice (some ⟨ga, 0, none⟩) 1 1) ∧ w'.cell? ⟨N, 8, none⟩ = some (.slice (some ⟨gb, 0, none⟩) 1 1) ∧ w'.cell? ⟨N, 9, none⟩ = some (.slice aA an ac) ∧ w'.cell? ⟨N, 10, none⟩ = some (.slice nA nn nc) ∧ w'.cell? ⟨N, 11, none⟩ = some (.slice pA pn pc))
            (first | exact keep12 HbxN hNW11 (by assumption))
            (first
              | (go_at_call 18; refine (f_dE (x := ⟨⟨vA, k, vc⟩, ⟨2, 1, none, 0, 0⟩, ⟨2, 1, none, 0, 0⟩, ⟨some ⟨ga, 0, none⟩, 1, 1⟩, ⟨some ⟨gb, 0, none⟩, 1, 1⟩, ⟨aA, an, ac⟩, ⟨nA, nn, nc⟩, ⟨pA, pn, pc⟩⟩) (Nat.le_refl _) HrmT11 (by assumption)).mono ?_; rintro e va ⟨Ox, cx, rfl, hox, hqx, hbx⟩)
              | (go_at_call 19; refine (f_dS (x := ⟨⟨vA, k, vc⟩, ⟨2, 1, none, 0, 0⟩, ⟨2, 1, none, 0, 0⟩, ⟨some ⟨ga, 0, none⟩, 1, 1⟩, ⟨some ⟨gb, 0, none⟩, 1, 1⟩, ⟨aA, an, ac⟩, ⟨nA, nn, nc⟩, ⟨pA, pn, pc⟩⟩) (Nat.le_refl _) HrmT11 (by assumption)).mono ?_; rintro e vb ⟨Oy, cy, rfl, hoy, hqy, hby⟩))
          have hb12 := hby.out
          have Hrx12 := hide (hox.out.onl (G := N) (below_onl hqy.out) hNW11)
          have Hry12 := hide hoy.out
          obtain ⟨w12, rfl⟩ : ∃ w9, w9 = vb := ⟨_, rfl⟩
          clear hox hoy hqx hqy hbx hby Hdr HbxN HrmT11
          rw [← HdE.out] at Hrx12 ⊢
          rw [← HdS.out] at Hry12 ⊢
          have hz12 := hb12.size
          have Hb12 := hide (Hb11.out.trans (hb12.mono (by omega)))
          have Hra12 := hide (Hra11.out.onl (G := N) (below_onl hb12) hNW)
          have Hrb12 := hide (Hrb11.out.onl (G := N) (below_onl hb12) hNW)
          generalize hLO2 : w11.heap.size = LO2 at *
          clear hLO2 hb12 Hra11 Hrb11 Hb11 HrmO11 Hrow11 Hga11 Hgb11 Hoe11 Hos11
          have hla : la.length ≤ 2 ^ 40 := by have := Hlen.out; omega
          have hlb : lb.length ≤ 2 ^ 40 := by have := Hlen.out; omega
          go_wp2_with fail
          go_loopw [123] (fun i wr => ∃ (j : Nat), j ≤ la.length ∧ i = .int .i64 j ∧ Below w12.heap.size w12 wr) (fun i _ => la.length - (intOf i).toNat)
          case atStart => exact ⟨0, by omega, rfl, Below.refl _ _⟩
          case round =>
            obtain ⟨j, hj, rfl, hb⟩ := hrel
            have hzj := hb.size
            have Hbj := hide hb
            clear hb
            by_cases hlt2 : j < la.length
            · have hlt2' : ((j : Int) < (la.length : Int)) := by omega
              obtain ⟨ab, ao, z, eO, hab, hz1, ca⟩ := (Hra12.out.onl (G := N) (below_onl Hbj.out) hNW).at_ hlt2
              obtain ⟨xb, xo, z', eO', hxb, hz2, cx'⟩ := (Hrx12.out.onl (G := N) (below_onl Hbj.out) hNW11).at_ hlt2
              obtain rfl : z' = z := by rw [hz1] at hz2; exact (Option.some.inj hz2).symm
              subst eO; subst eO'
              go_wp2_with fail
              go_quiet (fail)
              go_wp2_with fail
              go_roundw
              case rel => exact ⟨j + 1, by omega, by go_num, Dom.below_drewN Hbj.out _⟩
              case measure => simp [intOf]; omega
            · have hlt2' : ¬ ((j : Int) < (la.length : Int)) := by omega
              go_wp2_with fail
              go_loopw [138] (fun i wr => ∃ (j : Nat), j ≤ lb.length ∧ i = .int .i64 j ∧ Below w12.heap.size w12 wr) (fun i _ => lb.length - (intOf i).toNat)
              case atStart => exact ⟨0, by omega, rfl, Hbj.out⟩
              case round =>
                obtain ⟨j2, hj2, rfl, hb⟩ := hrel
                have hzj2 := hb.size
                have Hbj2 := hide hb
                clear hb
                by_cases hlt3 : j2 < lb.length
                · have hlt3' : ((j2 : Int) < (lb.length : Int)) := by omega
                  obtain ⟨ab, ao, z, eO, hab, hz1, ca⟩ := (Hrb12.out.onl (G := N) (below_onl Hbj2.out) hNW).at_ hlt3
                  obtain ⟨xb, xo, z', eO', hxb, hz2, cx'⟩ := (Hry12.out.onl (G := N) (below_onl Hbj2.out) hNW11).at_ hlt3
                  obtain rfl : z' = z := by rw [hz1] at hz2; exact (Option.some.inj hz2).symm
                  subst eO; subst eO'
                  go_wp2_with fail
                  go_quiet (fail)
                  go_wp2_with fail
                  go_roundw
                  case rel => exact ⟨j2 + 1, by omega, by go_num, Dom.below_drewN Hbj2.out _⟩
                  case measure => simp [intOf]; omega
                · have hlt3' : ¬ ((j2 : Int) < (lb.length : Int)) := by omega
                  go_wp2_with fail
                  refine (awake_any _).mono ?_
                  rintro e y1 ⟨rfl, hby⟩
                  go_wp2_with fail
                  go_ret
                  exact ⟨rfl, by rw [hN]; exact (Hb12.out.trans (Hbj2.out.mono (by omega))).trans (hby.mono (by omega))⟩
end Go.Proofs.Ytohegmnfmomjaaa
