/- The walk of ChoiceForms. -/
import Derived.Test.YtohegmnfmomjaaaCAwake
import Derived.Deep.RegionHeld3
namespace Go.Proofs.Ytohegmnfmomjaaa
open Go.RowKit Ex
set_option linter.unusedSimpArgs false
set_option linter.unusedVariables false

def RIM (w : World) (B : Nat) (O : Option Addr) (xs : List Int) : Prop := RI w B O xs.length xs ∧ xs.length ≤ maxLen
theorem own_le {w : World} {base e sz n c : Nat} {O : Option Addr} {xs : List Value} (h : w.ownsRow base e sz (.slice O n c) n xs) : n ≤ maxLen := by
  rcases h.2 with ⟨e1, h⟩ | ⟨g3, cap3, cur, e1, _, _, h2, h3, _⟩
  · rw [h]; unfold maxLen; omega
  · exact Nat.le_trans h2 h3
section
variable {W w' : World} {B : Nat}
theorem c_dE {x : M8} {m : MT} (hB : B ≤ W.heap.size) (Hrm : Hid (RM W B x m)) (hs : Hid (Below W.heap.size W w')) :
    Calls Try.prog 18 #[.agg x.cells] w' fun e w'' => ∃ O c, e = .returned (.slice O (initEnvL m).length c) ∧ Hid (RIM w'' w''.heap.size O (initEnvL m)) ∧ Hid (Below w'.heap.size w' w'') ∧ Hid (Below W.heap.size W w'') :=
  (dinitE_any B x m w' (Nat.le_trans hB hs.out.size) (Hrm.out.below (hs.out.mono hB))).mono fun e w'' ⟨O, k, c, he, hown, hk, hb⟩ => by
    subst hk
    exact ⟨O, c, he, hide ⟨own_ri hown, own_le hown⟩, hide hb, hide (hs.out.trans (hb.mono hs.out.size))⟩
theorem c_dS {x : M8} {m : MT} {p : Int} (hB : B ≤ W.heap.size) (Hrm : Hid (RM W B x m)) (hs : Hid (Below W.heap.size W w')) :
    Calls Try.prog 19 #[.agg x.cells, .int .i64 p] w' fun e w'' => ∃ O c, e = .returned (.slice O (initSysL m p).length c) ∧ Hid (RIM w'' w''.heap.size O (initSysL m p)) ∧ Hid (Below w'.heap.size w' w'') ∧ Hid (Below W.heap.size W w'') :=
  (dinitS_any B x m p w' (Nat.le_trans hB hs.out.size) (Hrm.out.below (hs.out.mono hB))).mono fun e w'' ⟨O, k, c, he, hown, hk, hb⟩ => by
    subst hk
    exact ⟨O, c, he, hide ⟨own_ri hown, own_le hown⟩, hide hb, hide (hs.out.trans (hb.mono hs.out.size))⟩
theorem c_dV {x : M8} {m : MT} {st : Int} (hB : B ≤ W.heap.size) (Hrm : Hid (RM W B x m)) (hs : Hid (Below W.heap.size W w')) :
    Calls Try.prog 14 #[.agg x.cells, .int .i64 st] w' fun e w'' => ∃ O c, e = .returned (.slice O (envL m st).length c) ∧ Hid (RIM w'' w''.heap.size O (envL m st)) ∧ Hid (Below w'.heap.size w' w'') ∧ Hid (Below W.heap.size W w'') :=
  (denv_any B x m st w' (Nat.le_trans hB hs.out.size) (Hrm.out.below (hs.out.mono hB))).mono fun e w'' ⟨O, k, c, he, hown, hk, hb⟩ => by
    subst hk
    exact ⟨O, c, he, hide ⟨own_ri hown, own_le hown⟩, hide hb, hide (hs.out.trans (hb.mono hs.out.size))⟩
theorem c_dY {x : M8} {m : MT} {st p : Int} (hB : B ≤ W.heap.size) (Hrm : Hid (RM W B x m)) (hs : Hid (Below W.heap.size W w')) :
    Calls Try.prog 15 #[.agg x.cells, .int .i64 st, .int .i64 p] w' fun e w'' => ∃ O c, e = .returned (.slice O (sysL m st p).length c) ∧ Hid (RIM w'' w''.heap.size O (sysL m st p)) ∧ Hid (Below w'.heap.size w' w'') ∧ Hid (Below W.heap.size W w'') :=
  (dsys_any B x m st p w' (Nat.le_trans hB hs.out.size) (Hrm.out.below (hs.out.mono hB))).mono fun e w'' ⟨O, k, c, he, hown, hk, hb⟩ => by
    subst hk
    exact ⟨O, c, he, hide ⟨own_ri hown, own_le hown⟩, hide hb, hide (hs.out.trans (hb.mono hs.out.size))⟩
theorem c_awake6 (hs : Hid (Below W.heap.size W w')) : Calls Try.prog 11 #[] w' fun e w'' => e = .returned (.bool true) ∧ Hid (Below W.heap.size W w'') :=
  (awake_any w').mono fun _ _ ⟨he, hb⟩ => ⟨he, hide (hs.out.trans (hb.mono hs.out.size))⟩
theorem keep12 {N : Nat} {x : M8} (H1 : Hid (BoxM W N x)) (h1 : N < W.heap.size) (hs : Hid (Below W.heap.size W w')) : w'.cell? ⟨N, 0, none⟩ = some (.slice x.vars.A x.vars.n x.vars.c) ∧ w'.cell? ⟨N, 1, none⟩ = some (.int .i64 x.ie.op) ∧ w'.cell? ⟨N, 2, none⟩ = some (.int .i64 x.ie.n) ∧ w'.cell? ⟨N, 3, none⟩ = some (.slice x.ie.A x.ie.len x.ie.cap) ∧ w'.cell? ⟨N, 4, none⟩ = some (.int .i64 x.is.op) ∧ w'.cell? ⟨N, 5, none⟩ = some (.int .i64 x.is.n) ∧ w'.cell? ⟨N, 6, none⟩ = some (.slice x.is.A x.is.len x.is.cap) ∧ w'.cell? ⟨N, 7, none⟩ = some (.slice x.env.A x.env.n x.env.c) ∧ w'.cell? ⟨N, 8, none⟩ = some (.slice x.sys.A x.sys.n x.sys.c) ∧ w'.cell? ⟨N, 9, none⟩ = some (.slice x.asm.A x.asm.n x.asm.c) ∧ w'.cell? ⟨N, 10, none⟩ = some (.slice x.ens.A x.ens.n x.ens.c) ∧ w'.cell? ⟨N, 11, none⟩ = some (.slice x.prio.A x.prio.n x.prio.c) := row12 (H1.out.below hs.out h1)
end
end Go.Proofs.Ytohegmnfmomjaaa
