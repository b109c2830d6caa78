/- Contracts within regions that draw their order. -/
import Derived.Test.YtkjclofkfmkbdaaEAwake
import Derived.Test.YtkjclofkfmkbdaaMFold
namespace Go.Proofs.Ytkjclofkfmkbdaa
open Go.RowKit Ex
open Go.Sort (grow)
set_option linter.unusedSimpArgs false
set_option linter.unusedVariables false

def OkV (nv cv : Nat) (lv : List Dom.V) : Prop := nv ≤ maxLen ∧ nv ≤ cv ∧ cv ≤ maxLen ∧ ∀ v ∈ lv, v.nm.size ≤ maxLen
section
variable {W w' : World} {B d : Nat} {Av : Option Addr} {nv cv : Nat} {lv : List Dom.V} {op n : Int} {A : Option Addr} {len cap : Nat} {t : T} {now next : Int} {dd : Nat} {os : Array Obj}
theorem q_rv (hB : B ≤ W.heap.size) (Hrv : Hid (Dom.RV W B Av nv lv)) : Dom.RV (grow (redrawn W dd) os) B Av nv lv := Hrv.out.below ((below_regrown W dd os).mono hB)
theorem q_vheavy (hB : B ≤ W.heap.size) (Ho : Hid (OkV nv cv lv)) (Hrv : Hid (Dom.RV W B Av nv lv)) : Calls Try.prog 9 #[.slice Av nv cv] (grow (redrawn W dd) os) fun e w'' => e = .returned (.int .i64 (Dom.heavyGo 0 lv)) ∧ ∃ p : Regrown, w'' = grow (redrawn W p.d) p.os :=
  Calls.regrown_of (Dom.heavy_any Av nv cv B lv _ Ho.out.1 (Nat.le_trans hB (below_regrown W dd os).size) (q_rv hB Hrv) Ho.out.2.2.2)
theorem q_rmayV (hB : B ≤ W.heap.size) (Ho : Hid (OkV nv cv lv)) (Hrv : Hid (Dom.RV W B Av nv lv)) : Calls Try.prog 26 #[.slice Av nv cv] (grow (redrawn W dd) os) fun e w'' => e = .returned (.int .i64 (Dom.mayL lv)) ∧ ∃ p : Regrown, w'' = grow (redrawn W p.d) p.os :=
  Calls.regrown_of (Dom.rmay_any Av nv cv B lv _ Ho.out.1 Ho.out.2.1 Ho.out.2.2.1 (Nat.le_trans hB (below_regrown W dd os).size) (q_rv hB Hrv) Ho.out.2.2.2)
theorem q_rmayE (hB : B ≤ W.heap.size) (Hre : Hid (RE W B d op n A len cap t)) : Calls Try.prog 16 #[.agg #[.int .i64 op, .int .i64 n, .slice A len cap]] (grow (redrawn W dd) os) fun e w'' => e = .returned (.int .i64 (mayE t)) ∧ ∃ p : Regrown, w'' = grow (redrawn W p.d) p.os :=
  Calls.regrown_of (rmay_any B d op n A len cap t _ (q_re hB Hre).1 (q_re hB Hre).2)
theorem q_dtrue (hB : B ≤ W.heap.size) (Ho : Hid (OkV nv cv lv)) (Hrv : Hid (Dom.RV W B Av nv lv)) (Hre : Hid (RE W B d op n A len cap t)) : Calls Try.prog 14 #[.slice Av nv cv, .agg #[.int .i64 op, .int .i64 n, .slice A len cap], .int .i64 now, .int .i64 next] (grow (redrawn W dd) os) fun e w'' => e = .returned (.bool (trueE lv t now next)) ∧ ∃ p : Regrown, w'' = grow (redrawn W p.d) p.os :=
  Calls.regrown_of (dtrue_any B Av nv cv lv d op n A len cap t now next _ Ho.out.1 Ho.out.2.1 Ho.out.2.2.1 (q_re hB Hre).1 (q_re hB Hre).2 (q_rv hB Hrv) Ho.out.2.2.2)
theorem q_rtrue (hB : B ≤ W.heap.size) (Ho : Hid (OkV nv cv lv)) (Hrv : Hid (Dom.RV W B Av nv lv)) (Hre : Hid (RE W B d op n A len cap t)) : Calls Try.prog 15 #[.slice Av nv cv, .agg #[.int .i64 op, .int .i64 n, .slice A len cap], .int .i64 now, .int .i64 next] (grow (redrawn W dd) os) fun e w'' => e = .returned (.bool (trueE lv t now next)) ∧ ∃ p : Regrown, w'' = grow (redrawn W p.d) p.os :=
  Calls.regrown_of (rtrue_any B Av nv cv lv d op n A len cap t now next _ Ho.out.1 Ho.out.2.1 Ho.out.2.2.1 (q_re hB Hre).1 (q_re hB Hre).2 (q_rv hB Hrv) Ho.out.2.2.2)
theorem q_awake4 : Calls Try.prog 11 #[] (grow (redrawn W dd) os) fun e w'' => e = .returned (.bool true) ∧ ∃ p : Regrown, w'' = grow (redrawn W p.d) p.os :=
  Calls.regrown_of (awake_any _)
/- contracts that speak of one world W, behind which all is new -/
theorem on_w (hs : Hid (Below W.heap.size W w')) {f : FuncId} {args : Array Value} {v : Value}
    (h : Calls Try.prog f args w' fun e w'' => e = .returned v ∧ Below w'.heap.size w' w'') : Calls Try.prog f args w' fun e w'' => e = .returned v ∧ Hid (Below w'.heap.size w' w'') ∧ Hid (Below W.heap.size W w'') :=
  h.mono fun _ _ ⟨he, hb⟩ => ⟨he, hide hb, hide (hs.out.trans (hb.mono hs.out.size))⟩
theorem re_w (hB : B ≤ W.heap.size) (Hre : Hid (RE W B d op n A len cap t)) (hs : Hid (Below W.heap.size W w')) : B ≤ w'.heap.size ∧ RE w' B d op n A len cap t :=
  ⟨Nat.le_trans hB hs.out.size, Hre.out.below (hs.out.mono hB)⟩
theorem rv_w (hB : B ≤ W.heap.size) (Hrv : Hid (Dom.RV W B Av nv lv)) (hs : Hid (Below W.heap.size W w')) : Dom.RV w' B Av nv lv := Hrv.out.below (hs.out.mono hB)
theorem c_rmay (hB : B ≤ W.heap.size) (Hre : Hid (RE W B d op n A len cap t)) (hs : Hid (Below W.heap.size W w')) : Calls Try.prog 16 #[.agg #[.int .i64 op, .int .i64 n, .slice A len cap]] w' fun e w'' => e = .returned (.int .i64 (mayE t)) ∧ Hid (Below w'.heap.size w' w'') ∧ Hid (Below W.heap.size W w'') :=
  on_w hs (rmay_any B d op n A len cap t w' (re_w hB Hre hs).1 (re_w hB Hre hs).2)
theorem c_nodes (hB : B ≤ W.heap.size) (Hre : Hid (RE W B d op n A len cap t)) (hs : Hid (Below W.heap.size W w')) : Calls Try.prog 20 #[.agg #[.int .i64 op, .int .i64 n, .slice A len cap]] w' fun e w'' => e = .returned (.int .i64 (nodesE t)) ∧ Hid (Below w'.heap.size w' w'') ∧ Hid (Below W.heap.size W w'') :=
  on_w hs (nodes_any B d op n A len cap t w' (re_w hB Hre hs).1 (re_w hB Hre hs).2)
theorem c_dtrue (hB : B ≤ W.heap.size) (Ho : Hid (OkV nv cv lv)) (Hrv : Hid (Dom.RV W B Av nv lv)) (Hre : Hid (RE W B d op n A len cap t)) (hs : Hid (Below W.heap.size W w')) : Calls Try.prog 14 #[.slice Av nv cv, .agg #[.int .i64 op, .int .i64 n, .slice A len cap], .int .i64 now, .int .i64 next] w' fun e w'' => e = .returned (.bool (trueE lv t now next)) ∧ Hid (Below w'.heap.size w' w'') ∧ Hid (Below W.heap.size W w'') :=
  on_w hs (dtrue_any B Av nv cv lv d op n A len cap t now next _ Ho.out.1 Ho.out.2.1 Ho.out.2.2.1 (re_w hB Hre hs).1 (re_w hB Hre hs).2 (rv_w hB Hrv hs) Ho.out.2.2.2)
theorem c_rtrue (hB : B ≤ W.heap.size) (Ho : Hid (OkV nv cv lv)) (Hrv : Hid (Dom.RV W B Av nv lv)) (Hre : Hid (RE W B d op n A len cap t)) (hs : Hid (Below W.heap.size W w')) : Calls Try.prog 15 #[.slice Av nv cv, .agg #[.int .i64 op, .int .i64 n, .slice A len cap], .int .i64 now, .int .i64 next] w' fun e w'' => e = .returned (.bool (trueE lv t now next)) ∧ Hid (Below w'.heap.size w' w'') ∧ Hid (Below W.heap.size W w'') :=
  on_w hs (rtrue_any B Av nv cv lv d op n A len cap t now next _ Ho.out.1 Ho.out.2.1 Ho.out.2.2.1 (re_w hB Hre hs).1 (re_w hB Hre hs).2 (rv_w hB Hrv hs) Ho.out.2.2.2)
theorem c_awake (hs : Hid (Below W.heap.size W w')) : Calls Try.prog 11 #[] w' fun e w'' => e = .returned (.bool true) ∧ Hid (Below w'.heap.size w' w'') ∧ Hid (Below W.heap.size W w'') := on_w hs (awake_any w')
def FoldW (W : World) (t : T) (w' : World) (e : Ending) (w'' : World) : Prop := ∃ (o m : Int) (O : Option Addr) (k c d : Nat), e = .returned (.agg #[.int .i64 o, .int .i64 m, .slice O k c]) ∧ Hid (RE w'' w''.heap.size d o m O k c t) ∧ Hid (Below w'.heap.size w' w'') ∧ Hid (Below W.heap.size W w'')
theorem c_dfold (hB : B ≤ W.heap.size) (Ho : Hid (OkV nv cv lv)) (Hrv : Hid (Dom.RV W B Av nv lv)) (Hre : Hid (RE W B d op n A len cap t)) (Hm : Hid (mayE t = 0)) (hs : Hid (Below W.heap.size W w')) : Calls Try.prog 18 #[.slice Av nv cv, .agg #[.int .i64 op, .int .i64 n, .slice A len cap]] w' (FoldW W (foldE lv t) w') :=
  (dfold_any B Av nv cv lv d op n A len cap t w' Ho.out.1 Ho.out.2.1 Ho.out.2.2.1 (re_w hB Hre hs).1 (re_w hB Hre hs).2 (rv_w hB Hrv hs) Ho.out.2.2.2 Hm.out).mono fun e w'' ⟨x, d', he, hr, hb⟩ => ⟨x.op, x.n, x.A, x.len, x.cap, d', he, hide hr, hide hb, hide (hs.out.trans (hb.mono hs.out.size))⟩
theorem c_rfold (hB : B ≤ W.heap.size) (Ho : Hid (OkV nv cv lv)) (Hrv : Hid (Dom.RV W B Av nv lv)) (Hre : Hid (RE W B d op n A len cap t)) (hs : Hid (Below W.heap.size W w')) : Calls Try.prog 19 #[.slice Av nv cv, .agg #[.int .i64 op, .int .i64 n, .slice A len cap]] w' (FoldW W (foldE lv t) w') :=
  (rfold_any B Av nv cv lv d op n A len cap t w' Ho.out.1 Ho.out.2.1 Ho.out.2.2.1 (re_w hB Hre hs).1 (re_w hB Hre hs).2 (rv_w hB Hrv hs) Ho.out.2.2.2).mono fun e w'' ⟨x, d', he, hr, hb⟩ => ⟨x.op, x.n, x.A, x.len, x.cap, d', he, hide hr, hide hb, hide (hs.out.trans (hb.mono hs.out.size))⟩
/- two newly folded expressions held against each other -/
theorem c_same2 {w1 : World} {d1 d2 : Nat} {o1 m1 o2 m2 : Int} {O1 O2 : Option Addr} {k1 c1 k2 c2 : Nat} {t1 t2 : T} (h1 : Hid (RE w1 w1.heap.size d1 o1 m1 O1 k1 c1 t1)) (h12 : Hid (Below w1.heap.size w1 w')) (h2 : Hid (RE w' w'.heap.size d2 o2 m2 O2 k2 c2 t2)) (hs : Hid (Below W.heap.size W w')) :
    Calls Try.prog 17 #[.agg #[.int .i64 o1, .int .i64 m1, .slice O1 k1 c1], .agg #[.int .i64 o2, .int .i64 m2, .slice O2 k2 c2]] w' fun e w'' => e = .returned (.bool (sameE t1 t2)) ∧ Hid (Below w'.heap.size w' w'') ∧ Hid (Below W.heap.size W w'') :=
  on_w hs (same_any w'.heap.size d1 o1 m1 O1 k1 c1 t1 d2 o2 m2 O2 k2 c2 t2 w' (Nat.le_refl _) (RE.more h12.out.size _ _ _ _ _ _ _ (h1.out.below h12.out)) h2.out)
end
theorem vheavy_le : ∀ (l : List Dom.V) (i : Nat), i ≤ 10 → Dom.heavyGo i l ≤ 11
  | [], i, h => by simp [Dom.heavyGo]
  | v :: r, i, h => by
    rw [Dom.heavyGo]; split
    · omega
    · rename_i h1
      exact vheavy_le r (i + 1) (by omega)
theorem vheavy_bd (l : List Dom.V) : 0 ≤ Dom.heavyGo 0 l ∧ Dom.heavyGo 0 l ≤ 11 := ⟨Dom.heavy_nonneg l 0, vheavy_le l 0 (by omega)⟩
end Go.Proofs.Ytkjclofkfmkbdaa
